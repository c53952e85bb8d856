"""Two runs of a plan side by side: what is unlike, where they part, and the chains that lead there."""

from twinstride.errors import NoCase, NoPlace
from twinstride.runs import run
from twinstride.things import all_things, in_order, is_just, is_place, number_in
from twinstride.trails import traced


class Pair:
    """Two runs laid side by side, with what each of their steps comes from and reads."""

    def __init__(self, plan, one, other, most):
        self.traces = [traced(plan, one, most), traced(plan, other, most)]
        if any([trace.dry for trace in self.traces]):
            raise NoCase("a run is dry")
        self.plan = plan
        self.things_unlike = dict([(thing, True) for thing in unlike(plan, one, other)])
        self.parted = parted(self.traces[0].steps, self.traces[1].steps)
        self.marks_unlike = self.traces[0].numbers[plan[4]] != self.traces[1].numbers[plan[4]]

    def may_be_led_to(self, place):
        """Tell whether chains lead to the place: a parting, or None with unlike marks."""
        if place is None:
            return self.marks_unlike
        return is_place(place) and place in self.parted

    def unlike_read(self, place):
        """Tell the unlike things that are read at the place in one of the runs, in order."""
        reads = []
        for trace in self.traces:
            reads.extend(trace.reads.get(place, []))
        return in_order(self.plan, [thing for thing in reads if thing in self.things_unlike])

    def partings_ahead(self, place):
        """Tell the partings from which the place comes in one of the runs, each once."""
        comes = []
        for trace in self.traces:
            comes.extend(trace.comes.get(place, []))
        return sorted(set([ahead for ahead in comes if ahead in self.parted]))


def unlike(plan, one, other):
    """Tell the things with unlike numbers in two stands, in order."""
    return [thing for thing in all_things(plan) if number_in(plan, one, thing) != number_in(plan, other, thing)]


def parted(steps, others):
    """Tell of the steps of two runs a dict of the places where they part, each with its two numbers."""
    ours = dict(steps)
    theirs = dict(others)
    places = sorted(set(ours) | set(theirs))
    pairs = [(place, (ours.get(place), theirs.get(place))) for place in places]
    return dict([pair for pair in pairs if pair[1][0] != pair[1][1]])


def partings(plan, one, other, most):
    """Tell where two runs part: a list of (place, one, other), rising."""
    told = [run(plan, one, most), run(plan, other, most)]
    if any([end is None for steps, end in told]):
        raise NoCase("a run is dry")
    found = parted(told[0][0], told[1][0])
    return [(place,) + found[place] for place in found]


def first_parting(plan, one, other, most):
    """Tell (place, things) of the first parting, the unlike things that it reads in both runs; None without one."""
    pair = Pair(plan, one, other, most)
    if not pair.parted:
        return None
    place = list(pair.parted)[0]
    return (place, [thing for thing in pair.unlike_read(place) if is_read_in_both(pair, place, thing)])


def is_read_in_both(pair, place, thing):
    """Tell whether a thing is read at a place of both runs in each of them."""
    return all([thing in trace.reads[place] for trace in pair.traces])


def chain(plan, one, other, most, place):
    """Tell a chain (thing, places) from an unlike thing, through partings alone, to a parting or to None."""
    pair = Pair(plan, one, other, most)
    if not pair.may_be_led_to(place):
        raise NoPlace("no parting stands there")
    behind = {place: None}
    waiting = []
    here = place
    # To each parting a chain leads, so that there is always one more waiting.
    while not pair.unlike_read(here):
        for ahead in pair.partings_ahead(here):
            if ahead not in behind:
                behind[ahead] = here
                waiting.append(ahead)
        here = waiting.pop()
    return (pair.unlike_read(here)[0], way_on(behind, here))


def way_on(behind, place):
    """Tell the places from one on, each followed by the one behind it, but for None."""
    places = []
    while place is not None:
        places.append(place)
        place = behind[place]
    return places


def is_chain(plan, one, other, most, place, thing):
    """Tell of any thing whether it is a chain to the place."""
    pair = Pair(plan, one, other, most)
    if not pair.may_be_led_to(place) or not has_chain_form(thing):
        return False
    places = list(thing[1])
    # The end has no place of its own in the list; else the last place is the one that is led to.
    if place is None:
        places.append(None)
    if not places or places[-1] != place:
        return False
    if not any([is_just(thing[0], read) for read in pair.unlike_read(places[0])]):
        return False
    return all([ahead in pair.partings_ahead(at) for ahead, at in zip(places, places[1:])])


def has_chain_form(thing):
    """Tell of any thing whether it is a tuple of something and a list of what may be places."""
    if not isinstance(thing, tuple) or len(thing) != 2 or not isinstance(thing[1], list):
        return False
    return all([is_place(part) for part in thing[1]])
