"""Worths: the fewest faulty things that make the fault, found by layers, and what bears that out.

The worth of a state is how many more faulty pieces it takes, at least, to come from there to the faulty mark.
"""

from twinstride.layers import gone_along
from twinstride.mixes import marks, unlike_of
from twinstride.things import in_order, is_just


def fewest_by(case, limit=500):
    """Tell (number, mix, worths): how few faulty things make the faulty mark, such a mix, and the worths."""
    told = gone_along(case, limit)
    worths = worths_of(case, told)
    sums = [(count_with(case, state, worths[0][state]), state) for state in sorted(told[0].many)]
    best = min([pair for pair in sums if pair[0] is not None])
    mix = faulty_names(case, best[1]) + faulty_pieces(told, worths, best[1])
    return (best[0], in_order(case[0], mix), [sorted_pairs(held) for held in worths])


def sorted_pairs(held):
    """Tell the pairs of a dict, by rising keys."""
    return [(state, held[state]) for state in sorted(held)]


def worths_of(case, told):
    """Tell for each layer a dict of the worths of its states, None where the faulty mark isn't come to."""
    held = last_worths(case, told[-1])
    worths = [held]
    for layer in reversed(told[:-1]):
        held = dict([(state, worth_by(layer.moves[state], held)) for state in layer.many])
        worths.append(held)
    worths.reverse()
    return worths


def last_worths(case, layer):
    """Tell the worths at the last moment: 0 with the faulty mark, else None."""
    x = case[0][1].index(case[0][4])
    faulty = marks(case)[1]
    return dict([(state, 0 if state[0][x] == faulty else None) for state in layer.many])


def worth_by(moves, behind):
    """Tell the worth of a state by its moves and the worths behind."""
    sums = [len(way.faulty) + behind[state] for state, way in moves.items() if behind[state] is not None]
    return min(sums, default=None)


def faulty_names(case, state):
    """Tell the unlike names that have the faulty stand's number in a first state."""
    faulty = [name for name, number, other in zip(case[0][1], state[0], case[2][0]) if number == other]
    return [name for name in unlike_of(case) if name in faulty]


def count_with(case, state, worth):
    """Tell how many faulty names and further faulty pieces a first state takes, None where its worth is."""
    if worth is None:
        return None
    return len(faulty_names(case, state)) + worth


def faulty_pieces(told, worths, state):
    """Tell the faulty pieces on a way by which a first state's worth is borne out."""
    pieces = []
    for layer, here, behind in zip(told, worths, worths[1:]):
        state_and_way = cheapest(layer.moves[state], here[state], behind)
        state = state_and_way[0]
        pieces.extend(state_and_way[1].faulty)
    return pieces


def cheapest(moves, worth, behind):
    """Tell the first of a state's moves by which it has its worth."""
    sums = [(state, way) for state, way in moves.items() if behind[state] is not None]
    return [pair for pair in sums if len(pair[1].faulty) + behind[pair[0]] == worth][0]


def bears(case, number, thing, limit=500):
    """Tell of any thing whether it is worths that bear out the number."""
    told = gone_along(case, limit)
    if not isinstance(thing, list) or len(thing) != len(told):
        return False
    if not all([are_worths(layer, part) for layer, part in zip(told, thing)]):
        return False
    worths = [dict(part) for part in thing]
    if worths[-1] != last_worths(case, told[-1]):
        return False
    if not all([bears_moves(layer, here, behind) for layer, here, behind in zip(told, worths, worths[1:])]):
        return False
    sums = [count_with(case, state, worth) for state, worth in worths[0].items()]
    return all([one is None or one >= number for one in sums])


def are_worths(layer, thing):
    """Tell of any thing whether it has a worth for each state of a layer, in order."""
    if not isinstance(thing, list) or len(thing) != len(layer.many):
        return False
    return all([is_pair(state, part) for state, part in zip(sorted(layer.many), thing)])


def is_pair(state, thing):
    """Tell of any thing whether it is a tuple of the state and a worth."""
    if not isinstance(thing, tuple) or len(thing) != 2 or not is_just(thing[0], state):
        return False
    worth = thing[1]
    return worth is None or isinstance(worth, int) and not isinstance(worth, bool) and worth >= 0


def bears_moves(layer, here, behind):
    """Tell whether the worths of a layer are borne out by those behind it."""
    for state, worth in here.items():
        for comes_to, way in layer.moves[state].items():
            if not bears_move(worth, len(way.faulty), behind[comes_to]):
                return False
    return True


def bears_move(worth, faulty, behind):
    """Tell whether a worth is borne out by the one behind, come to by so many faulty pieces."""
    if behind is None:
        return True
    return worth is not None and behind >= worth - faulty
