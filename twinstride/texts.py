"""Plans and stands written as texts, and read from them."""

from twinstride.errors import NoRow, NoText
from twinstride.figures import number_from
from twinstride.plans import LEAST_WHEEL, MOST_PIECES, MOST_ROWS, MOST_WHEEL, MOST_WITHIN, are_names

HEAD = ("wheel", "names", "pieces", "mark")
SIGNS = {"sum": "+", "by": "*", "less": "<", "same": "=="}
WORDS = {"+": "sum", "*": "by", "<": "less", "==": "same"}


def plan_rows(plan):
    """Tell the texts that a plan is written as."""
    told = ["wheel " + str(plan[0]), "names " + " ".join(plan[1]), "pieces " + str(plan[2]), "mark " + plan[4]]
    return told + written(plan[3])


def written(rows):
    """Tell the texts that rows are written as."""
    told = []
    for row in rows:
        if row[0] == "if":
            told.extend(["if " + row[1]] + written(row[2]) + ["else"] + written(row[3]) + ["end"])
        elif row[0] == "again":
            told.extend(["again " + row[1]] + written(row[2]) + ["end"])
        else:
            told.append(row[1] + " = " + worth_written(row))
    return told


def worth_written(row):
    """Tell what is written behind the = of a row that sets its own x."""
    if row[0] == "put":
        return str(row[2])
    if row[0] == "take":
        return "piece " + str(row[2])
    if row[0] == "pick":
        return "pick " + row[2]
    return row[2] + " " + SIGNS[row[0]] + " " + row[3]


class Block:
    """An if or again that is not ended yet, or the top: its word and x, and the rows read so far."""

    def __init__(self, word, x):
        self.word = word
        self.x = x
        # The first rows of an if, once its else was read.
        self.first = None
        self.rows = []


class Reading:
    """A plan on its way, text by text: each is taken, or told to be none that may stand there."""

    def __init__(self):
        self.head = []
        self.blocks = [Block("top", "")]
        self.count = 0

    def take(self, text):
        """Take the next text; tell whether it may stand there."""
        words = text.split(" ")
        if len(self.head) < len(HEAD):
            part = head_part(self.head, words)
            self.head.append(part)
            return part is not None
        if words == ["else"]:
            return self.turn()
        if words == ["end"]:
            return self.close()
        return self.take_row(words)

    def take_row(self, words):
        """Take the words of a row, but for what closes an if or again; tell whether they are such."""
        self.count += 1
        if self.count > MOST_ROWS:
            return False
        if len(words) == 2:
            self.blocks.append(Block(words[0], words[1]))
            return words[0] in ("if", "again") and words[1] in self.head[1] and len(self.blocks) - 1 <= MOST_WITHIN
        row = setting_row(self.head, words)
        self.blocks[-1].rows.append(row)
        return row is not None

    def turn(self):
        """Take an else; tell whether an if is open without one."""
        block = self.blocks[-1]
        if block.word != "if" or block.first is not None:
            return False
        block.first = tuple(block.rows)
        block.rows = []
        return True

    def close(self):
        """Take an end; tell whether there is an again, or an if with its else, to end."""
        block = self.blocks.pop()
        if block.word == "top" or block.word == "if" and block.first is None:
            return False
        firsts = () if block.first is None else (block.first,)
        self.blocks[-1].rows.append((block.word, block.x) + firsts + (tuple(block.rows),))
        return True

    def is_done(self):
        """Tell whether the texts taken are a whole plan."""
        return len(self.head) == len(HEAD) and len(self.blocks) == 1


def head_part(head, words):
    """Tell the next part of a plan's head, behind those in the head, that words write; None where they write none."""
    if words[0] != HEAD[len(head)]:
        return None
    if words[0] == "names":
        return tuple(words[1:]) if are_names(tuple(words[1:])) else None
    if len(words) != 2:
        return None
    if words[0] == "wheel":
        return number_from(words[1], LEAST_WHEEL, MOST_WHEEL)
    if words[0] == "pieces":
        return number_from(words[1], 0, MOST_PIECES)
    return words[1] if words[1] in head[1] else None


def setting_row(head, words):
    """Tell the row that sets its own x which words write, None where they write none."""
    if len(words) < 3 or words[0] not in head[1] or words[1] != "=":
        return None
    x = words[0]
    if len(words) == 3:
        return row_with("put", x, number_from(words[2], 0, head[0] - 1))
    if len(words) == 4 and words[2] == "piece":
        return row_with("take", x, number_from(words[3], 0, head[2] - 1))
    if len(words) == 4 and words[2] == "pick" and head[2] != 0:
        return row_with("pick", x, words[3] if words[3] in head[1] else None)
    if len(words) == 5 and words[2] in head[1] and words[3] in WORDS and words[4] in head[1]:
        return (WORDS[words[3]], x, words[2], words[4])
    return None


def row_with(word, x, part):
    """Tell the row with this last part, None where there is none."""
    return None if part is None else (word, x, part)


def read_plan(rows):
    """Tell the plan that a list of texts writes; NoRow of the first that may not stand there."""
    reading = Reading()
    for number, text in enumerate(rows):
        if not reading.take(text):
            raise NoRow(number)
    if not reading.is_done():
        raise NoRow(len(rows))
    head = reading.head
    return (head[0], head[1], head[2], tuple(reading.blocks[0].rows), head[3])


def stand_text(stand):
    """Tell the text that a stand is written as."""
    return " ".join([str(number) for number in stand[0]] + ["|"] + [str(number) for number in stand[1]])


def read_stand(plan, text):
    """Tell the stand of a plan that a text writes; NoText where it writes none."""
    words = text.split(" ")
    middle = len(plan[1])
    if len(words) != middle + 1 + plan[2] or words[middle] != "|":
        raise NoText("no stand of the plan")
    numbers = [number_from(word, 0, plan[0] - 1) for word in words[:middle]]
    pieces = [number_from(word, 0, plan[0] - 1) for word in words[middle + 1:]]
    if None in numbers + pieces:
        raise NoText("no numbers of the wheel")
    return (tuple(numbers), tuple(pieces))
