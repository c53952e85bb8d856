"""Woven plans: two plans of one build made into one, which does the rows of either by its pieces."""

from twinstride.causes import least_causes
from twinstride.errors import NoBuild, TooBig
from twinstride.mixes import marks
from twinstride.plans import is_plan, rows_within

LETTERS = "abcdefghijklmnopqrstuvwxyz"


class Weave:
    """What two plans are woven by: the new name, and the new piece of each place of unlike rows."""

    def __init__(self, one, other):
        self.name = new_name(one[1])
        self.pieces = dict([(place, one[2] + i) for i, place in enumerate(unlike_rows(one, other))])


def new_name(names):
    """Tell the first of a, b, .., z, aa, ab, .. that is none of the names."""
    told = list(LETTERS)
    # The list grows while no name of it is free, each letter put behind each name of it in turn.
    at = 0
    while all([name in names for name in told]):
        told.extend([told[at] + letter for letter in LETTERS])
        at += 1
    return [name for name in told if name not in names][0]


def unlike_rows(one, other):
    """Tell the places of unlike rows of two plans, rising; NoBuild where they are not of one build."""
    if one[:3] != other[:3] or one[4] != other[4]:
        raise NoBuild("wheel, names, pieces or mark are unlike")
    pairs = paired(one[3], other[3], ())
    return sorted([place for place, row, beside in pairs if row != beside])


def paired(rows, others, place):
    """Tell (place, row, row) of the rows that set their own x; NoBuild where rows don't stand likewise."""
    if len(rows) != len(others):
        raise NoBuild("one has more rows")
    told = []
    for j, row in enumerate(rows):
        refuse_unlike_sorts(row, others[j])
        if rows_within(row):
            told.extend(paired_within(row, others[j], place + (j,)))
        else:
            told.append((place + (j,), row, others[j]))
    return told


def refuse_unlike_sorts(row, other):
    """Refuse two rows that can't stand at one place: picks, or ifs and agains beside what isn't such of one x."""
    if row[0] == "pick" or other[0] == "pick":
        raise NoBuild("a row is a pick")
    if (rows_within(row) or rows_within(other)) and row[:2] != other[:2]:
        raise NoBuild("an if or again stands in one alone")


def paired_within(row, other, place):
    """Tell the pairs of the rows within two ifs, or within two agains, that stand at the place."""
    told = []
    for branch, rows, others in zip(branches(row), rows_within(row), rows_within(other)):
        told.extend(paired(rows, others, place + (branch,)))
    return told


def branches(row):
    """Tell by which numbers the rows within an if, and those of an again's first round, are placed."""
    return [1, 0] if row[0] == "if" else [0]


def woven(one, other):
    """Tell the plan into which two of one build are woven; NoBuild, TooBig."""
    weave = Weave(one, other)
    rows = woven_rows(weave, one[3], other[3], ())
    plan = (one[0], one[1] + (weave.name,), one[2] + len(weave.pieces), rows, one[4])
    if not is_plan(plan):
        raise TooBig("woven, the plans go beyond the bounds")
    return plan


def woven_rows(weave, rows, others, place):
    """Tell rows woven with others that stand likewise, the first at place + (0,)."""
    told = []
    for j, row in enumerate(rows):
        told.extend(woven_row(weave, row, others[j], place + (j,)))
    return tuple(told)


def woven_row(weave, row, other, place):
    """Tell the rows to which a row and the other's at its place give way."""
    if place in weave.pieces:
        return [("take", weave.name, weave.pieces[place]), ("if", weave.name, (other,), (row,))]
    within = []
    for branch, rows, others in zip(branches(row), rows_within(row), rows_within(other)):
        within.append(woven_rows(weave, rows, others, place + (branch,)))
    return [row[:2] + tuple(within)] if within else [row]


def case_of(one, other, stand, most):
    """Tell the case of the woven plan whose faulty stand does the other's rows; NoBuild, TooBig, then NoCase."""
    plan = woven(one, other)
    added = plan[2] - one[2]
    stands = [(stand[0] + (0,), stand[1] + (number,) * added) for number in [0, 1]]
    case = (plan, stands[0], stands[1], most)
    marks(case)
    return case


def rows_to_blame(one, other, stand, most, limit=500):
    """Tell the least causes of that case, as lists of the places of unlike rows; TooMany as tree."""
    causes = least_causes(case_of(one, other, stand, most), limit)
    places = unlike_rows(one, other)
    return [places_of(places, one[2], cause) for cause in causes]


def places_of(places, many, pieces):
    """Tell the places that new pieces, numbered from many on, stand for."""
    return [places[piece - many] for piece in pieces]
