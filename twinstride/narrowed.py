"""Narrowed cases: a cause found by few askings, of which no single thing can be left out."""

from twinstride.mixes import is_mix, marks, stand_of, unlike_of, verdict_of
from twinstride.runs import mark
from twinstride.things import is_just


class Askings:
    """Mixes of a case that were asked, each once, in this order, with their verdicts."""

    def __init__(self, case):
        self.case = case
        self.two = marks(case)
        self.told = {}

    def ask(self, mix):
        """Tell the verdict of a mix, and note it where it is new."""
        if tuple(mix) not in self.told:
            self.told[tuple(mix)] = verdict_of(self.two, mark(self.case[0], stand_of(self.case, mix), self.case[3]))
        return self.told[tuple(mix)]

    def is_cause(self, mix):
        """Tell whether the verdict of a mix is faulty."""
        return self.ask(mix) == "faulty"


def narrowed(case):
    """Tell (askings, cause): mixes with their verdicts, and one of them, faulty, that is so with no one thing less."""
    askings = Askings(case)
    things = unlike_of(case)
    askings.ask(things)
    cause = thinned(askings, halved(askings, things))
    return ([(list(mix), told) for mix, told in askings.told.items()], cause)


def halved(askings, cause):
    """Tell a cause within this one, halved as long as one of its halves is a cause too."""
    while len(cause) > 1:
        middle = len(cause) // 2
        if askings.is_cause(cause[:middle]):
            cause = cause[:middle]
        elif askings.is_cause(cause[middle:]):
            cause = cause[middle:]
        else:
            break
    return cause


def thinned(askings, cause):
    """Tell a cause within this one, thing by thing left out, till no single one can go."""
    at = 0
    staying = 0
    # Once a thing has gone, those that had to stay ahead of it may go too: all are tried anew.
    while staying < len(cause):
        at = at % len(cause)
        less = cause[:at] + cause[at + 1:]
        if askings.is_cause(less):
            cause = less
            staying = 0
        else:
            at += 1
            staying += 1
    return cause


def all_one_less(mix):
    """Tell the mixes that have one thing less than this one."""
    return [mix[:at] + mix[at + 1:] for at in range(len(mix))]


def is_narrowed(case, thing):
    """Tell of any thing whether it is askings and a cause as narrowed tells them, however many."""
    askings = Askings(case)
    things = unlike_of(case)
    if not has_narrowed_form(things, thing):
        return False
    told = dict([(tuple(mix), verdict) for mix, verdict in thing[0]])
    if len(told) != len(thing[0]) or not is_just(thing[0][0][0], things):
        return False
    if told.get(tuple(thing[1])) != "faulty":
        return False
    # What isn't among the askings counts as faulty, so that it is missed.
    if any([told.get(tuple(less), "faulty") == "faulty" for less in all_one_less(thing[1])]):
        return False
    return all([askings.ask(mix) == verdict for mix, verdict in thing[0]])


def has_narrowed_form(things, thing):
    """Tell of any thing whether it is a tuple of a list of askings, one at least, and a mix of these things."""
    if not isinstance(thing, tuple) or len(thing) != 2 or not isinstance(thing[0], list):
        return False
    if len(thing[0]) == 0 or not is_mix(things, thing[1]):
        return False
    return all([is_asking(things, part) for part in thing[0]])


def is_asking(things, thing):
    """Tell of any thing whether it is a tuple of a mix and something, perhaps a verdict."""
    return isinstance(thing, tuple) and len(thing) == 2 and is_mix(things, thing[0])


def is_bare(case, mix):
    """Tell of a mix whether it is a cause that is none with any one of its things left out."""
    askings = Askings(case)
    return askings.is_cause(mix) and not any([askings.is_cause(less) for less in all_one_less(mix)])
