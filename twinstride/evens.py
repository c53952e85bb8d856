"""Even cases: those in which a fault stays when more things are faulty."""

from twinstride.mixes import unlike_of
from twinstride.outcomes import mix_of, outcomes


def even(case, limit=500):
    """Tell ("even",), or ("odd", one, other): a cause, and a mix with it within that is none; TooMany as tree."""
    found = outcomes(case, limit)
    causes = [one.faulty for one in found if one.verdict == "faulty"]
    things = unlike_of(case)
    for end in [one for one in found if one.verdict != "faulty"]:
        for cause in causes:
            # A mix with the cause within it can go to this end where nothing of the cause is settled as sound there.
            if cause & end.sound == 0:
                return ("odd", mix_of(things, cause), mix_of(things, cause | end.faulty))
    return ("even",)
