"""Causes and remedies of a case: the fewest things that make the fault, and all least mixes that make or mend it.

To an outcome go just the mixes with all that is settled as faulty there and nothing that is settled as sound. So the
least of these mixes is what is settled as faulty, and the least that can be left out of them what is settled as sound.
"""

from twinstride.mixes import unlike_of
from twinstride.outcomes import mix_of, numbers_of, outcomes


def fewest(case, limit=500):
    """Tell, of the causes with fewest things, the first; TooMany as tree."""
    found = sorted([numbers_of(bits) for bits in causes_met(case, limit)])
    things = unlike_of(case)
    return [things[number] for number in min(found, key=len)]


def least_causes(case, limit=500):
    """Tell all least causes, in order; TooMany as tree."""
    return mixes_in_order(case, least_of(causes_met(case, limit)))


def least_remedies(case, limit=500):
    """Tell all least remedies, in order; TooMany as tree."""
    sound = [one.sound for one in outcomes(case, limit) if one.verdict == "sound"]
    return mixes_in_order(case, least_of(sound))


def causes_met(case, limit):
    """Tell the bits of causes, the least one of each faulty outcome; TooMany as tree."""
    return [one.faulty for one in outcomes(case, limit) if one.verdict == "faulty"]


def least_of(many):
    """Tell those of many bits within which no other ones lie."""
    found = []
    # What lies within bits is a smaller number than they are, so that it comes ahead of them.
    for bits in sorted(many):
        if not any([held & bits == held for held in found]):
            found.append(bits)
    return found


def mixes_in_order(case, many):
    """Tell the mixes that bits stand for, by the lists of their things' numbers."""
    things = unlike_of(case)
    return [mix_of(things, bits) for bits in sorted(many, key=numbers_of)]


def are_causes(case, mixes, limit=500):
    """Tell of any list of mixes whether it is just all least causes, in any order; TooMany as tree."""
    told = least_causes(case, limit)
    # Written out, a truth isn't like a number, nor a tuple like a list, and all can be sorted.
    return sorted([repr(mix) for mix in mixes]) == sorted([repr(cause) for cause in told])
