"""Layers: the states to which the mixes of a case come, moment by moment, and how many mixes do.

A state is a tuple (numbers, kept): the names' numbers, and the unlike pieces, each with its number, that were read
and may still be taken.
"""

from twinstride.errors import Dry, TooMany
from twinstride.mixes import marks, unlike_of
from twinstride.plans import may_take, rows_within
from twinstride.runs import joined


class Ground:
    """What stays as it is while the states of a case are gone along."""

    def __init__(self, case):
        self.plan = case[0]
        self.sound = case[1]
        self.faulty = case[2]
        self.most = case[3]
        self.at = dict([(name, number) for number, name in enumerate(case[0][1])])
        things = unlike_of(case)
        self.names = [thing for thing in things if isinstance(thing, str)]
        self.pieces = dict([(thing, True) for thing in things if isinstance(thing, int)])


class Ready:
    """A row made ready: its names as numbers, the rows within it made ready, and the unlike pieces that it may take
    and that no row behind it may."""

    def __init__(self, ground, row, later):
        self.word = row[0]
        self.parts = [ground.at[part] if isinstance(part, str) else part for part in row[1:]]
        taken = [piece for piece in may_take(ground.plan, (row,)) if piece in ground.pieces]
        self.dropped = dict([(piece, True) for piece in taken if piece not in later])
        # The rows of an again may be done once more behind each of them.
        again = may_take(ground.plan, row[2]) if row[0] == "again" else []
        self.within = [ready_rows(ground, rows, later + again) for rows in rows_within(row)]


class Way:
    """How mixes come to a state from where a row of the top begins: how many, by how many steps at most, and the
    fewest faulty pieces that are read on the way for the first time."""

    def __init__(self, many, steps, faulty):
        self.many = many
        self.steps = steps
        self.faulty = faulty


class Layer:
    """A moment: how many mixes come to each state, and, once it was gone on from, the ways over the row behind from
    each state, by where they lead."""

    def __init__(self, many):
        self.many = many
        self.moves = {}


def ready_rows(ground, rows, later):
    """Tell rows made ready, behind which the pieces of later may be taken."""
    told = []
    for row in reversed(rows):
        told.append(Ready(ground, row, later))
        later = later + may_take(ground.plan, (row,))
    told.reverse()
    return told


def add_way(ways, state, way):
    """Add to a dict of ways one that leads to the state."""
    if state not in ways:
        ways[state] = way
        return
    held = ways[state]
    faulty = held.faulty if len(held.faulty) <= len(way.faulty) else way.faulty
    ways[state] = Way(held.many + way.many, max(held.steps, way.steps), faulty)


def one_step_on(ground, way):
    """Tell a way with one step more; Dry where that is one too many."""
    if way.steps >= ground.most:
        raise Dry("a row takes more steps than the most")
    return Way(way.many, way.steps + 1, way.faulty)


def do_rows(ground, rows, ways):
    """Tell the ways behind rows made ready, by those ahead of them."""
    for row in rows:
        if not ways:
            break
        if row.word == "if":
            ways = do_if(ground, row, ways)
        elif row.word == "again":
            ways = do_again(ground, row, ways)
        else:
            ways = do_setting(ground, row, ways)
    return ways


def do_if(ground, row, ways):
    """Tell the ways behind an if: each goes on through its first rows or its second."""
    firsts = {}
    seconds = {}
    for state, way in ways.items():
        side = seconds if state[0][row.parts[0]] == 0 else firsts
        side[state] = one_step_on(ground, way)
    told = {}
    for rows, side in zip(row.within, [firsts, seconds]):
        for state, way in do_rows(ground, rows, side).items():
            add_way(told, (state[0], still_kept(row, state[1])), way)
    return told


def do_again(ground, row, ways):
    """Tell the ways behind an again: round by round, till none goes on."""
    told = {}
    while ways:
        going = {}
        for state, way in ways.items():
            on = one_step_on(ground, way)
            if state[0][row.parts[0]] == 0:
                add_way(told, (state[0], still_kept(row, state[1])), on)
            else:
                going[state] = on
        ways = do_rows(ground, row.within[0], going)
    return told


def do_setting(ground, row, ways):
    """Tell the ways behind a row that sets its own x."""
    told = {}
    for state, way in ways.items():
        on = one_step_on(ground, way)
        piece = piece_of(ground, row, state[0])
        if piece in ground.pieces and piece not in dict(state[1]):
            add_both(ground, told, row, state, on, piece)
        else:
            add_way(told, with_number(row, state, number_of(ground, row, state, piece)), on)
    return told


def add_both(ground, ways, row, state, way, piece):
    """Add the two ways that part where a piece is read for the first time: half of the mixes go each."""
    half = way.many // 2
    for stand, faulty in [(ground.sound, ()), (ground.faulty, (piece,))]:
        number = stand[1][piece]
        kept = tuple(sorted(state[1] + ((piece, number),)))
        add_way(ways, with_number(row, (state[0], kept), number), Way(half, way.steps, way.faulty + faulty))


def piece_of(ground, row, numbers):
    """Tell the piece that a row made ready reads, None where it reads none."""
    if row.word == "take":
        return row.parts[1]
    if row.word == "pick":
        return numbers[row.parts[1]] % ground.plan[2]
    return None


def number_of(ground, row, state, piece):
    """Tell the number that the x of a row becomes, the piece that it reads being settled."""
    if piece is not None:
        return dict(state[1]).get(piece, ground.sound[1][piece])
    if row.word == "put":
        return row.parts[1]
    return joined(row.word, state[0][row.parts[1]], state[0][row.parts[2]], ground.plan[0])


def with_number(row, state, number):
    """Tell the state behind a row whose x becomes the number."""
    x = row.parts[0]
    return (state[0][:x] + (number,) + state[0][x + 1:], still_kept(row, state[1]))


def still_kept(row, kept):
    """Tell those of the kept pieces that may still be taken behind a row."""
    # What may not be taken by the row itself either was dropped ahead of it.
    if not row.dropped:
        return kept
    return tuple([pair for pair in kept if pair[0] not in row.dropped])


def first_states(ground):
    """Tell the states of the first moment: each unlike name has either number, and no piece was read."""
    told = [ground.sound[0]]
    for name in ground.names:
        x = ground.at[name]
        told = told + [numbers[:x] + (ground.faulty[0][x],) + numbers[x + 1:] for numbers in told]
    return [(numbers, ()) for numbers in told]


def gone_along(case, limit):
    """Tell a Layer for each moment of a case; refused with TooMany and Dry, moment by moment."""
    marks(case)
    ground = Ground(case)
    many = 1
    for piece in ground.pieces:
        many = many * 2
    told = [Layer(dict([(state, many) for state in first_states(ground)]))]
    for row in ready_rows(ground, case[0][3], []):
        refuse_more(told[-1], limit)
        told.append(layer_behind(ground, told[-1], row))
    refuse_more(told[-1], limit)
    return told


def refuse_more(layer, limit):
    """Refuse a layer of more states than the limit."""
    if len(layer.many) > limit:
        raise TooMany("a layer has too many states")


def layer_behind(ground, layer, row):
    """Tell the layer behind a row of the top, and note the moves that lead to it."""
    moves = {}
    behind = {}
    for state, many in layer.many.items():
        ways = do_rows(ground, [row], {state: Way(many, 0, ())})
        moves[state] = ways
        for comes_to, way in ways.items():
            behind[comes_to] = behind.get(comes_to, 0) + way.many
    layer.moves = moves
    return Layer(behind)


def layers(case, limit=500):
    """Tell for each moment of a case a sorted list of (state, many)."""
    return [sorted(layer.many.items()) for layer in gone_along(case, limit)]


def marks_counted(case, limit=500):
    """Tell how many mixes have each mark, a list of (mark, many), rising."""
    x = case[0][1].index(case[0][4])
    told = {}
    for state, many in gone_along(case, limit)[-1].many.items():
        told[state[0][x]] = told.get(state[0][x], 0) + many
    return sorted(told.items())
