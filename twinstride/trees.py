"""The tree of a case: which unlike things the runs of its mixes ask for, one behind the other, and their marks.

A tree is ("ask", thing, T, U) or ("end", mark).
"""

from twinstride.errors import TooMany
from twinstride.mixes import marks, unlike_of, verdict_of
from twinstride.plans import names_read
from twinstride.runs import number_of, piece_read
from twinstride.things import in_order, is_just, number_in


class Going:
    """The run of some mixes on its way, as far as they are alike."""

    def __init__(self, numbers, pieces, unsettled, todo, left):
        self.numbers = numbers
        self.pieces = pieces
        # The unlike things that are asked when they are read; a name that was set is none any more.
        self.unsettled = unsettled
        # The rows to do, linked as (row, rest), so that ways that part can share them.
        self.todo = todo
        # How many steps are left till the run is dry.
        self.left = left

    def settled(self, thing, number):
        """Tell another one that goes on from here with this number for the thing."""
        other = Going(dict(self.numbers), list(self.pieces), dict(self.unsettled), self.todo, self.left)
        other.unsettled.pop(thing)
        if isinstance(thing, str):
            other.numbers[thing] = number
        else:
            other.pieces[thing] = number
        return other


class Ends:
    """How many ends a tree has at least, held against a limit."""

    def __init__(self, limit):
        self.limit = limit
        self.count = 0

    def one_more(self):
        """Count one more end; TooMany where it goes beyond the limit."""
        self.count += 1
        if self.count > self.limit:
            raise TooMany("the tree has too many ends")


def start(case):
    """Tell the run of all mixes of a case at its start."""
    plan = case[0]
    sound = case[1]
    unsettled = dict([(thing, True) for thing in unlike_of(case)])
    return Going(dict(zip(plan[1], sound[0])), list(sound[1]), unsettled, put_ahead(plan[3], None), case[3])


def put_ahead(rows, todo):
    """Tell linked rows to do: these rows, then what was to do."""
    for row in reversed(rows):
        todo = (row, todo)
    return todo


def go_on(plan, going):
    """Go on till a thing is to be asked, and tell it; None where the run ends or is dry."""
    while going.todo is not None:
        if going.left <= 0:
            return None
        row = going.todo[0]
        asked = asked_by(plan, going, row)
        if asked is not None:
            return asked
        do_row(plan, going, row)
    return plan[4] if plan[4] in going.unsettled else None


def asked_by(plan, going, row):
    """Tell the first thing, in order, that a row reads and that isn't settled; None where there is none."""
    if not going.unsettled:
        return None
    found = [name for name in names_read(row) if name in going.unsettled]
    if found:
        return in_order(plan, found)[0]
    piece = piece_read(plan, going.numbers, row)
    return piece if piece in going.unsettled else None


def do_row(plan, going, row):
    """Do the step of the row that is first to do."""
    going.left -= 1
    going.todo = going.todo[1]
    if row[0] == "if":
        going.todo = put_ahead(row[3] if going.numbers[row[1]] == 0 else row[2], going.todo)
    elif row[0] == "again":
        if going.numbers[row[1]] != 0:
            going.todo = put_ahead(row[2], (row, going.todo))
    else:
        going.numbers[row[1]] = number_of(plan, going.numbers, going.pieces, row)
        going.unsettled.pop(row[1], None)


def mark_of(plan, going):
    """Tell the mark of a run that has come to its end, None where it is dry."""
    return going.numbers[plan[4]] if going.todo is None else None


def both_ways(case, going, thing):
    """Tell how a run goes on with the sound stand's number for a thing, and how with the faulty one's."""
    return [going.settled(thing, number_in(case[0], stand, thing)) for stand in case[1:3]]


def tree(case, limit=500):
    """Tell the tree of a case; TooMany where it has more ends than the limit."""
    marks(case)
    ends = Ends(limit)
    ends.one_more()
    return grown(case, start(case), ends)


def grown(case, going, ends):
    """Tell the tree that a run on its way has before it, whose first end is counted."""
    asked = go_on(case[0], going)
    if asked is None:
        return ("end", mark_of(case[0], going))
    # Each asking makes one end more, so that too many are seen ahead of the ends themselves.
    ends.one_more()
    ways = both_ways(case, going, asked)
    return ("ask", asked, grown(case, ways[0], ends), grown(case, ways[1], ends))


def is_tree(case, thing):
    """Tell of any thing whether it is the tree of a case."""
    marks(case)
    return is_grown(case, start(case), thing)


def is_grown(case, going, thing):
    """Tell of any thing whether it is the tree that a run on its way has before it."""
    asked = go_on(case[0], going)
    if asked is None:
        return is_just(thing, ("end", mark_of(case[0], going)))
    if not isinstance(thing, tuple) or len(thing) != 4 or not is_just(thing[:2], ("ask", asked)):
        return False
    ways = both_ways(case, going, asked)
    return is_grown(case, ways[0], thing[2]) and is_grown(case, ways[1], thing[3])


def mark_by(tree, mix):
    """Tell the mark to which a mix goes by a tree."""
    here = tree
    while here[0] == "ask":
        here = here[3] if here[1] in mix else here[2]
    return here[1]


def counted(case, limit=500):
    """Tell how many mixes have each verdict, (sound, faulty, other); TooMany as tree."""
    two = marks(case)
    many = 1
    for thing in unlike_of(case):
        many = many * 2
    told = {"sound": 0, "faulty": 0, "other": 0}
    waiting = [(tree(case, limit), many)]
    while waiting:
        here = waiting.pop()
        if here[0][0] == "end":
            told[verdict_of(two, here[0][1])] += here[1]
        else:
            # Half of the mixes that come to an asking go on each way.
            waiting.extend([(here[0][2], here[1] // 2), (here[0][3], here[1] // 2)])
    return (told["sound"], told["faulty"], told["other"])
