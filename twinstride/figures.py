"""Whole numbers written in figures."""


def are_figures(text):
    """Tell whether a text is a whole number in figures, no 0 ahead but of 0 itself."""
    if text == "" or not all(["0" <= sign <= "9" for sign in text]):
        return False
    return text == "0" or text[0] != "0"


def number_from(text, least, most):
    """Tell the number from least to most that a text writes in figures, None where it is no such."""
    # No more figures than the most has: longer ones need not be read.
    if not are_figures(text) or len(text) > len(str(most)):
        return None
    number = int(text)
    return number if least <= number <= most else None
