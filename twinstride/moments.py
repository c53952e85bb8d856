"""Moments of a plan: its later rows by themselves, and the causes that the fault has there.

At moment k the rows at the top ahead of row k are done.
"""

from twinstride.causes import fewest
from twinstride.errors import NoMoment
from twinstride.mixes import marks, stand_of
from twinstride.runs import mark, run


def with_rows(plan, rows):
    """Tell the plan with these rows in the place of its own."""
    return plan[:3] + (rows,) + plan[4:]


def refuse_no_moment(plan, k):
    """Refuse what is no moment of the plan."""
    if not 0 <= k <= len(plan[3]):
        raise NoMoment("the plan has no such moment")


def later(plan, k):
    """Tell the later plan at moment k: the rows from k on."""
    refuse_no_moment(plan, k)
    return with_rows(plan, plan[3][k:])


def stand_at(plan, stand, most, k):
    """Tell the stand at moment k of a run; NoMoment where there is none, or the run is dry, wherever it gets so."""
    refuse_no_moment(plan, k)
    if run(plan, stand, most)[1] is None:
        raise NoMoment("the run is dry")
    return (run(with_rows(plan, plan[3][:k]), stand, most)[1], stand[1])


def case_at(case, k):
    """Tell the case that the stands at moment k are of the later plan."""
    stands = [stand_at(case[0], stand, case[3], k) for stand in case[1:3]]
    return (later(case[0], k), stands[0], stands[1], case[3])


def causes_at(case, limit=500):
    """Tell for each moment its fewest cause; TooMany where a tree has more ends than the limit."""
    marks(case)
    return [fewest(case_at(case, k), limit) for k in range(len(case[0][3]) + 1)]


def narrow(case, number, limit=500):
    """Tell the moments, rising, whose fewest cause has so many things at most; TooMany as causes_at."""
    return [k for k, cause in enumerate(causes_at(case, limit)) if len(cause) <= number]


def makes_fault(case, k, things):
    """Tell whether the things of the faulty run at moment k, put into the sound one there, make the faulty mark."""
    faulty = marks(case)[1]
    there = case_at(case, k)
    return mark(there[0], stand_of(there, things), there[3]) == faulty
