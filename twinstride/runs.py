"""Runs of a plan: the steps from a stand, the end and the mark.

A stand is a tuple (numbers, pieces); a step is a tuple (place, number).
"""

from twinstride.errors import Dry


class Walk:
    """A run on its way: the names' numbers as they are now, and the steps done."""

    def __init__(self, plan, stand, most):
        self.plan = plan
        self.numbers = dict(zip(plan[1], stand[0]))
        self.pieces = stand[1]
        self.most = most
        self.steps = []

    def note_step(self, place, number):
        """Note a step; Dry where it would be one too many."""
        if len(self.steps) >= self.most:
            raise Dry("more steps than the most")
        self.steps.append((place, number))

    def look(self, place, name):
        """Note a look at a name, and tell its number."""
        seen = 0 if self.numbers[name] == 0 else 1
        self.note_step(place, seen)
        return seen


def run(plan, stand, most):
    """Tell (steps, end) of the run; end is None where it is dry."""
    walk = Walk(plan, stand, most)
    try:
        do_rows(walk, plan[3], ())
    except Dry:
        return (walk.steps, None)
    return (walk.steps, tuple([walk.numbers[name] for name in plan[1]]))


def mark(plan, stand, most):
    """Tell the number of the plan's mark at the run's end, None where it is dry."""
    end = run(plan, stand, most)[1]
    if end is None:
        return None
    return end[plan[1].index(plan[4])]


def do_rows(walk, rows, place):
    """Do rows, the first of them at place + (0,)."""
    for j, row in enumerate(rows):
        do_row(walk, row, place + (j,))


def do_row(walk, row, place):
    """Do the row that stands at the place."""
    if row[0] == "if":
        do_if(walk, row, place)
    elif row[0] == "again":
        do_again(walk, row, place)
    else:
        number = number_of(walk.plan, walk.numbers, walk.pieces, row)
        walk.note_step(place, number)
        walk.numbers[row[1]] = number


def do_if(walk, row, place):
    """Do an if: a look, then its first rows or its second."""
    seen = walk.look(place, row[1])
    do_rows(walk, row[2] if seen == 1 else row[3], place + (seen,))


def do_again(walk, row, place):
    """Do an again: a look ahead of each round, and one for the round that isn't done."""
    turn = 0
    while walk.look(place + (turn,), row[1]) == 1:
        do_rows(walk, row[2], place + (turn,))
        turn += 1


def number_of(plan, numbers, pieces, row):
    """Tell the number that the x of a row becomes, by the numbers of names and of pieces."""
    if row[0] == "put":
        return row[2]
    piece = piece_read(plan, numbers, row)
    if piece is not None:
        return pieces[piece]
    return joined(row[0], numbers[row[2]], numbers[row[3]], plan[0])


def piece_read(plan, numbers, row):
    """Tell the piece that a row reads, by the numbers of names; None where it reads none."""
    if row[0] == "take":
        return row[2]
    if row[0] == "pick":
        return numbers[row[2]] % plan[2]
    return None


def joined(word, y, z, wheel):
    """Tell what a sum, by, less or same makes of two numbers."""
    if word == "sum":
        return (y + z) % wheel
    if word == "by":
        return y * z % wheel
    if word == "less":
        return 1 if y < z else 0
    return 1 if y == z else 0
