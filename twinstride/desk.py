"""A desk: it is told rows and answers each with a text."""

from twinstride.beside import first_parting
from twinstride.causes import fewest, least_causes, least_remedies
from twinstride.errors import NoLine, NoText
from twinstride.evens import even
from twinstride.figures import are_figures, number_from
from twinstride.mixes import is_mix, unlike_of, verdict
from twinstride.plans import is_name
from twinstride.runs import mark
from twinstride.shares import shares
from twinstride.texts import read_plan, read_stand
from twinstride.trails import trail
from twinstride.trees import counted

MOST_STEPS = 3000
SIDES = ("sound", "faulty")


class Desk:
    """A plan, its two stands and a most, as they were last told."""

    def __init__(self):
        self.plan = None
        self.stands = {}
        self.most = MOST_STEPS

    def say(self, row):
        """Tell the answer to a row; NoLine where it is none, or asks for what isn't there."""
        parts = row.partition(" ")
        if parts[1] == "":
            return answer(self, row)
        word = parts[0]
        rest = parts[2]
        if word == "plan":
            return self.take_plan(rest)
        if word in SIDES:
            return self.take_stand(word, rest)
        if word == "most":
            return self.take_most(rest)
        if word == "run" and rest in SIDES:
            return run_answer(self, rest)
        if word == "trail":
            return trail_answer(self, place_from(rest))
        if word == "verdict":
            return verdict_answer(self, things_from(rest))
        raise NoLine("no such row")

    def take_plan(self, text):
        """Take a new plan, which takes the stands away."""
        self.plan = read_plan(text.split(" / "))
        self.stands = {}
        return "ok"

    def take_stand(self, side, text):
        """Take a stand of the plan."""
        if self.plan is None:
            raise NoLine("there is no plan")
        self.stands[side] = read_stand(self.plan, text)
        return "ok"

    def take_most(self, text):
        """Take a most."""
        number = number_from(text, 0, MOST_STEPS)
        if number is None:
            raise NoLine("no such most")
        self.most = number
        return "ok"

    def stand_there(self, side):
        """Tell the stand of a side; NoLine where it isn't there."""
        if side not in self.stands:
            raise NoLine("there is no such stand")
        return self.stands[side]

    def case_there(self):
        """Tell what is to be a case, of both stands; NoLine where one isn't there."""
        return (self.plan, self.stand_there("sound"), self.stand_there("faulty"), self.most)


def run_answer(desk, side):
    """Answer with the mark of a stand's run."""
    told = mark(desk.plan, desk.stand_there(side), desk.most)
    return "dry" if told is None else str(told)


def trail_answer(desk, place):
    """Answer with the things read in the trail of the faulty run's step at a place."""
    return some_text(trail(desk.plan, desk.stand_there("faulty"), desk.most, place)[1])


def verdict_answer(desk, mix):
    """Answer with the verdict of a mix; NoText where the things are none."""
    case = desk.case_there()
    if not is_mix(unlike_of(case), mix):
        raise NoText("no mix")
    return verdict(case, mix)


def answer(desk, word):
    """Answer a row of one word, which asks for both stands."""
    if word not in ("part", "count", "fewest", "causes", "remedies", "even", "shares"):
        raise NoLine("no such row")
    case = desk.case_there()
    if word == "part":
        return parting_text(first_parting(case[0], case[1], case[2], case[3]))
    if word == "count":
        return " ".join([str(number) for number in counted(case)])
    if word == "fewest":
        return things_text(fewest(case))
    if word == "causes":
        return mixes_text(least_causes(case))
    if word == "remedies":
        return mixes_text(least_remedies(case))
    if word == "even":
        return even(case)[0]
    return " ".join([share_text(thing, share) for thing, share in shares(case)])


def thing_text(thing):
    """Tell how a thing is written: a name, or # and a piece's number."""
    return thing if isinstance(thing, str) else "#" + str(thing)


def things_text(things):
    """Tell how things are written."""
    return " ".join([thing_text(thing) for thing in things])


def some_text(things):
    """Tell how things are written, none where there are none."""
    return things_text(things) if things else "none"


def mixes_text(mixes):
    """Tell how mixes are written."""
    return " / ".join([things_text(mix) for mix in mixes])


def parting_text(told):
    """Tell how a first parting is written, none where there is none."""
    if told is None:
        return "none"
    return ".".join([str(number) for number in told[0]]) + " " + things_text(told[1])


def share_text(thing, share):
    """Tell how a thing's share is written."""
    return thing_text(thing) + ":" + str(share[0]) + "/" + str(share[1])


def place_from(text):
    """Tell the place that a text writes, None for the mark; NoLine where it writes none."""
    if text == "mark":
        return None
    words = text.split(".")
    if not all([are_figures(word) for word in words]):
        raise NoLine("no place")
    return tuple([int(word) for word in words])


def things_from(text):
    """Tell the things that a text writes; NoLine where one of them is none by its signs."""
    if text == "-":
        return []
    return [thing_from(word) for word in text.split(" ")]


def thing_from(word):
    """Tell the thing that a word writes; NoLine where it is none by its signs."""
    if is_name(word):
        return word
    if word[:1] == "#" and are_figures(word[1:]):
        return int(word[1:])
    raise NoLine("no thing")
