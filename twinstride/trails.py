"""Trails: what the steps of a run come from and read, back to the things that first stood there."""

from twinstride.errors import Dry, NoPlace
from twinstride.plans import names_read, sets
from twinstride.runs import piece_read, run
from twinstride.things import in_order, is_place


class Trace:
    """A run followed by its steps: the origins of each name now, and what each step comes from and reads."""

    def __init__(self, plan, stand, most):
        told = run(plan, stand, most)
        self.plan = plan
        self.steps = told[0]
        self.dry = told[1] is None
        self.numbers = dict(zip(plan[1], stand[0]))
        # The origins of a name: places, and the name itself as long as it stands among the untouched.
        self.origins = dict([(name, []) for name in plan[1]])
        self.untouched = dict([(name, True) for name in plan[1]])
        self.comes = {}
        self.reads = {}

    def note_reading(self, place, names, places, pieces):
        """Note what the step at a place comes from and reads: by these names, and besides."""
        comes = list(places)
        reads = list(pieces)
        for name in names:
            comes.extend(self.origins[name])
            if name in self.untouched:
                reads.append(name)
        self.comes[place] = comes
        self.reads[place] = reads

    def follow_step(self, place, row, looks):
        """Follow the run's next step, which the row does at the place, and tell its number; Dry where there is none."""
        if len(self.comes) == len(self.steps):
            raise Dry("no more steps")
        number = self.steps[len(self.comes)][1]
        piece = piece_read(self.plan, self.numbers, row)
        self.note_reading(place, names_read(row), looks, [] if piece is None else [piece])
        return number

    def set_name(self, name, place, number):
        """A step at the place sets the name: the place alone is its origin."""
        self.numbers[name] = number
        self.origins[name] = [place]
        self.untouched.pop(name, None)

    def leave(self, row, look):
        """An if or again is left: its last look is an origin, besides, of all that its rows set."""
        for name in sets((row,)):
            self.origins[name].append(look)


def traced(plan, stand, most):
    """Tell the trace of a run, with the place None where it isn't dry."""
    trace = Trace(plan, stand, most)
    try:
        follow_rows(trace, plan[3], (), [])
    except Dry:
        return trace
    trace.note_reading(None, [plan[4]], [], [])
    return trace


def follow_rows(trace, rows, place, looks):
    """Follow rows, the first at place + (0,); looks has the innermost look about them, if any."""
    for j, row in enumerate(rows):
        follow_row(trace, row, place + (j,), looks)


def follow_row(trace, row, place, looks):
    """Follow the row that stands at the place."""
    if row[0] == "if":
        seen = trace.follow_step(place, row, looks)
        follow_rows(trace, row[2] if seen == 1 else row[3], place + (seen,), [place])
        trace.leave(row, place)
    elif row[0] == "again":
        follow_again(trace, row, place, looks)
    else:
        number = trace.follow_step(place, row, looks)
        trace.set_name(row[1], place, number)


def follow_again(trace, row, place, looks):
    """Follow an again: a later look comes, besides, from the look ahead of it."""
    look = place + (0,)
    seen = trace.follow_step(look, row, looks)
    while seen == 1:
        follow_rows(trace, row[2], look, [look])
        ahead = look
        look = place + (ahead[-1] + 1,)
        seen = trace.follow_step(look, row, looks + [ahead])
    trace.leave(row, look)


def has_place(trace, place):
    """Tell whether the run has a step at the place, or is at its end there (None)."""
    return (place is None or is_place(place)) and place in trace.comes


def traced_to(plan, stand, most, place):
    """Tell the trace of a run that has the place; else NoPlace."""
    trace = traced(plan, stand, most)
    if not has_place(trace, place):
        raise NoPlace("the run has no such step")
    return trace


def froms(plan, stand, most, place):
    """Tell (froms, things): the places from which a place's step comes, rising, and the things that it reads."""
    trace = traced_to(plan, stand, most, place)
    return (sorted(set(trace.comes[place])), in_order(plan, trace.reads[place]))


def trail(plan, stand, most, place):
    """Tell (places, things): the trail of a place, rising, and the things read in it."""
    trace = traced_to(plan, stand, most, place)
    found = {place: True}
    waiting = [place]
    things = []
    while waiting:
        here = waiting.pop()
        things.extend(trace.reads[here])
        for ahead in trace.comes[here]:
            if ahead not in found:
                found[ahead] = True
                waiting.append(ahead)
    return (sorted([one for one in found if one is not None]), in_order(plan, things))


def is_closed(plan, stand, most, places):
    """Tell of a list of places of a run whether it has with each those from which it comes."""
    trace = traced(plan, stand, most)
    if not all([has_place(trace, place) for place in places]):
        return False
    held = dict([(place, True) for place in places])
    for place in held:
        if not all([ahead in held for ahead in trace.comes[place]]):
            return False
    return True
