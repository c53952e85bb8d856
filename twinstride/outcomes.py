"""Outcomes: the ends of a case's tree, each with what is settled on the way to it.

Unlike things are held together as bits: a whole number whose bit i stands for the unlike thing number i.
"""

from twinstride.mixes import marks, unlike_of, verdict_of
from twinstride.trees import tree


class Outcome:
    """An end of the tree: its verdict, and the bits of the things settled there as sound and as faulty."""

    def __init__(self, verdict, sound, faulty):
        self.verdict = verdict
        self.sound = sound
        self.faulty = faulty


def outcomes(case, limit):
    """Tell the outcomes of a case; TooMany as tree."""
    two = marks(case)
    bit_of = dict([(thing, 1 << number) for number, thing in enumerate(unlike_of(case))])
    found = []
    waiting = [(tree(case, limit), 0, 0)]
    while waiting:
        here = waiting.pop()
        sound = here[1]
        faulty = here[2]
        if here[0][0] == "end":
            found.append(Outcome(verdict_of(two, here[0][1]), sound, faulty))
        else:
            bit = bit_of[here[0][1]]
            waiting.append((here[0][2], sound | bit, faulty))
            waiting.append((here[0][3], sound, faulty | bit))
    return found


def numbers_of(bits):
    """Tell the numbers of the things that bits stand for, rising."""
    return [number for number in range(bits.bit_length()) if (bits >> number) & 1 == 1]


def mix_of(things, bits):
    """Tell the mix that bits stand for, of these unlike things."""
    return [things[number] for number in numbers_of(bits)]
