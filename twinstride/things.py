"""Things: the names and the pieces of a plan, in order; and what is just what was told."""


def all_things(plan):
    """Tell all things of a plan, in order: names as in the plan, then pieces rising."""
    return list(plan[1]) + list(range(plan[2]))


def in_order(plan, things):
    """Tell the things in order, each once."""
    wanted = dict([(thing, True) for thing in things])
    return [thing for thing in all_things(plan) if thing in wanted]


def number_in(plan, stand, thing):
    """Tell the number that a thing has in a stand."""
    if isinstance(thing, str):
        return stand[0][plan[1].index(thing)]
    return stand[1][thing]


def is_just(thing, told):
    """Tell of any thing whether it is just what is told: no list is a tuple, no truth a number."""
    if isinstance(told, tuple):
        return isinstance(thing, tuple) and are_just(thing, told)
    if isinstance(told, list):
        return isinstance(thing, list) and are_just(thing, told)
    return isinstance(thing, bool) == isinstance(told, bool) and thing == told


def are_just(things, told):
    """Tell whether things are, one by one, just those told."""
    if len(things) != len(told):
        return False
    return all([is_just(thing, one) for thing, one in zip(things, told)])


def is_place(thing):
    """Tell of any thing whether it has a place's form: a tuple of whole numbers."""
    if not isinstance(thing, tuple):
        return False
    return all([isinstance(part, int) and not isinstance(part, bool) for part in thing])
