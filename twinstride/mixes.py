"""Cases, and the mixes of their two stands.

A case is a tuple (plan, sound, faulty, most); a mix is a list of unlike things, taken from the faulty stand.
"""

from twinstride.beside import unlike
from twinstride.errors import NoCase
from twinstride.runs import mark
from twinstride.things import is_just, number_in


def marks(case):
    """Tell (sound, faulty), the marks of a case's runs; NoCase where it is none."""
    sound = mark(case[0], case[1], case[3])
    faulty = mark(case[0], case[2], case[3])
    if sound is None or faulty is None:
        raise NoCase("a run is dry")
    if sound == faulty:
        raise NoCase("the marks are alike")
    return (sound, faulty)


def unlike_of(case):
    """Tell the unlike things of a case's stands, in order."""
    return unlike(case[0], case[1], case[2])


def is_mix(things, thing):
    """Tell of any thing whether it is a mix: a list of some of the unlike things, in order, each once."""
    return isinstance(thing, list) and is_just(thing, [one for one in things if one in thing])


def mixed(case, mix):
    """Tell the stand that has the mix from the faulty stand, all else from the sound one."""
    marks(case)
    return stand_of(case, mix)


def stand_of(case, mix):
    """Tell the stand of a mix, the case being one."""
    names = case[0][1]
    pieces = list(range(case[0][2]))
    return (tuple([number_mixed(case, mix, name) for name in names]),
            tuple([number_mixed(case, mix, piece) for piece in pieces]))


def number_mixed(case, mix, thing):
    """Tell the number that a thing has in the stand of a mix."""
    return number_in(case[0], case[2] if thing in mix else case[1], thing)


def verdict(case, mix):
    """Tell "sound", "faulty" or "other", by the mark of the mix's run."""
    return verdict_of(marks(case), mark(case[0], stand_of(case, mix), case[3]))


def verdict_of(two, one):
    """Tell the verdict of a mark, held against the two marks of a case."""
    if one == two[0]:
        return "sound"
    if one == two[1]:
        return "faulty"
    return "other"
