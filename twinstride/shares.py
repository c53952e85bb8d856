"""Shares of blame: how much of the fault each unlike thing bears, over all orders in which they may become faulty."""

from twinstride.errors import NoCase
from twinstride.mixes import marks, unlike_of
from twinstride.outcomes import numbers_of, outcomes


def shares(case, limit=500):
    """Tell a list of (thing, share), all unlike things in order; TooMany as tree."""
    return mean_of([case], limit)


def mean_shares(cases, limit=500):
    """Tell the mean shares of cases of one plan with alike unlike things; else, behind TooMany of any, NoCase."""
    for case in cases:
        marks(case)
    return mean_of(cases, limit)


def mean_of(cases, limit):
    """Tell the mean shares of cases, a list of (thing, share)."""
    held = [orders_of(case, limit) for case in cases]
    things = unlike_of(cases[0])
    for case in cases:
        if case[0] != cases[0][0] or unlike_of(case) != things:
            raise NoCase("the cases have unlike plans or unlike unlike things")
    whole = orders_up_to(len(things))[-1] * len(cases)
    return [(thing, in_lowest_terms(sum([orders[number] for orders in held]), whole))
            for number, thing in enumerate(things)]


def orders_of(case, limit):
    """Tell for each unlike thing in how many orders the fault comes with it, less those in which it goes with it."""
    things = unlike_of(case)
    told = [0 for thing in things]
    ends = [one for one in outcomes(case, limit) if one.verdict == "faulty"]
    many = orders_up_to(len(things))
    for end in ends:
        faulty = numbers_of(end.faulty)
        sound = numbers_of(end.sound)
        # All orders of all things, by how those that are settled at the end stand among themselves.
        each = many[-1] // many[len(faulty) + len(sound)]
        # The end is come to with the last of its faulty things, all of its sound ones behind it.
        for number in faulty:
            told[number] += each * many[len(faulty) - 1] * many[len(sound)]
        # It is left with the first of its sound things, all of its faulty ones ahead of it.
        for number in sound:
            told[number] -= each * many[len(faulty)] * many[len(sound) - 1]
    return told


def orders_up_to(count):
    """Tell in how many orders 0, 1, .., count things may be put."""
    told = [1]
    for number in range(count):
        told.append(told[-1] * (number + 1))
    return told


def in_lowest_terms(n, d):
    """Tell the fraction (n, d), d above 0, with no common divisor above 1."""
    divisor = d
    rest = n % d
    while rest != 0:
        behind = divisor % rest
        divisor = rest
        rest = behind
    return (n // divisor, d // divisor)
