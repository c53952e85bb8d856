import unittest

from tests.helper import (
    Sources, all_mixes, busy_cases, case_of_ends, made_cases, made_pairs, marked_otherwise, threshold_case,
    verdict_otherwise,
)
from twinstride.beside import first_parting
from twinstride.causes import fewest, least_causes, least_remedies
from twinstride.desk import Desk
from twinstride.errors import NoCase, NoLine, NoPlace, NoRow, NoText, StrideError, TooMany
from twinstride.evens import even
from twinstride.shares import shares
from twinstride.texts import plan_rows, stand_text
from twinstride.trees import counted

# The mark is piece 0 and b * c, besides where that isn't 0.
PLAN = "plan wheel 10 / names a b c / pieces 2 / mark a / a = piece 0 / b = b * c / if b / a = a + b / else / end"
SOUND = "sound 0 0 0 | 0 3"
FAULTY = "faulty 0 1 1 | 5 3"
ASKING_BOTH = ("part", "verdict -", "verdict a", "count", "fewest", "causes", "remedies", "even", "shares")
ALL_ASKING = ASKING_BOTH + ("run sound", "run faulty", "trail mark", "trail 0")


def told_desk(*rows):
    """A desk that was told these rows, each of which is ok."""
    desk = Desk()
    for row in rows:
        assert desk.say(row) == "ok", row
    return desk


def plan_row(plan):
    return "plan " + " / ".join(plan_rows(plan))


def case_desk(case):
    plan, sound, faulty, most = case
    return told_desk(plan_row(plan), "sound " + stand_text(sound), "faulty " + stand_text(faulty), f"most {most}")


def thing_text(thing):
    return thing if isinstance(thing, str) else f"#{thing}"


def mix_text(mix):
    return " ".join(map(thing_text, mix))


class DeskTest(unittest.TestCase):
    def refused(self, desk, row, error):
        """The row is refused with just this error, and nothing is changed by it."""
        ahead = self.answers(desk)
        with self.assertRaises(error) as caught:
            desk.say(row)
        self.assertIs(type(caught.exception), error, row)
        self.assertEqual(self.answers(desk), ahead)
        return caught.exception

    def answers(self, desk):
        told = []
        for row in ALL_ASKING:
            try:
                told.append(desk.say(row))
            except StrideError as error:
                told.append(type(error).__name__)
        return told

    def says(self, desk, row, wanted):
        told = desk.say(row)
        self.assertIs(type(told), str)
        self.assertEqual(told, wanted)


class EachRowTest(DeskTest):
    def test_by_hand(self):
        desk = Desk()
        for row, wanted in (
            (PLAN, "ok"), (SOUND, "ok"), (FAULTY, "ok"), ("most 9", "ok"), ("run sound", "0"), ("run faulty", "6"),
            ("part", "0 #0"),
            ("trail 0", "#0"), ("trail 1", "b c"), ("trail 2", "b c"), ("trail 2.1.0", "b c #0"),
            ("trail mark", "b c #0"),
            ("verdict -", "sound"), ("verdict b", "sound"), ("verdict b c", "other"), ("verdict #0", "other"),
            ("verdict b c #0", "faulty"),
            ("count", "3 1 4"), ("fewest", "b c #0"), ("causes", "b c #0"), ("remedies", "b #0 / c #0"),
            ("even", "even"),
            ("shares", "b:1/3 c:1/3 #0:1/3"),
        ):
            self.says(desk, row, wanted)

    def test_several_causes_and_shares_below_nought(self):
        rows = "if c / if b / else / a = 1 / end / else / end / c = piece 0 / if c / a = 1 / else / end"
        desk = told_desk(f"plan wheel 10 / names a b c / pieces 1 / mark a / {rows}", "sound 0 0 0 | 0", "faulty 0 1 1 | 1")
        for row, wanted in (
            ("causes", "c / #0"), ("remedies", "#0"), ("fewest", "c"), ("even", "odd"), ("count", "3 5 0"),
            ("shares", "b:-1/6 c:1/3 #0:5/6"),
            ("part", "0 c"), ("run sound", "0"), ("run faulty", "1"),
        ):
            self.says(desk, row, wanted)

    def test_no_things(self):
        desk = told_desk("plan wheel 10 / names a b / pieces 0 / mark a / b = 3 / if b / else / end", "faulty 1 2 |")
        self.says(desk, "trail 0", "none")
        self.says(desk, "trail 1", "none")
        self.says(desk, "trail mark", "a")
        desk = told_desk("plan wheel 10 / names a b / pieces 0 / mark a / a = 3", "faulty 1 2 |")
        self.says(desk, "trail mark", "none")

    def test_no_parting(self):
        desk = told_desk("plan wheel 10 / names a b / pieces 1 / mark a / b = 3", "sound 1 2 | 3", "faulty 2 3 | 4")
        self.says(desk, "part", "none")
        self.says(desk, "fewest", "a")
        desk = told_desk(PLAN, SOUND, SOUND.replace("sound", "faulty"))
        self.says(desk, "part", "none")

    def test_a_parting_at_a_longer_place(self):
        rows = "again b / if a / else / c = piece 11 / end / b = 0 / end"
        pieces = " 0" * 11
        desk = told_desk(f"plan wheel 10 / names a b c / pieces 12 / mark c / {rows}", f"sound 0 1 0 |{pieces} 4", f"faulty 0 1 0 |{pieces} 5")
        self.says(desk, "part", "0.0.0.0.0 #11")
        self.says(desk, "trail 0.0.0.0.0", "a b #11")
        self.says(desk, "trail 0.0.1", "b")
        self.says(desk, "trail 0.1", "b")
        self.says(desk, "fewest", "#11")
        self.says(desk, "verdict #11", "faulty")
        self.says(desk, "shares", "#11:1/1")

    def test_places_with_great_numbers(self):
        rows = "again a / a = a + b / end"
        desk = told_desk(f"plan wheel 100 / names a b / pieces 0 / mark a / {rows}", "faulty 1 1 |", "sound 0 1 |")
        self.says(desk, "trail 0.99", "a b")
        self.says(desk, "trail 0.98.0", "a b")
        self.refused(desk, "trail 0.99.0", NoPlace)
        self.refused(desk, "trail 0.100", NoPlace)
        self.says(desk, "part", "0.0 a")

    def test_dry_runs(self):
        desk = told_desk("plan wheel 10 / names a b / pieces 0 / mark b / again a / end / b = 1", "sound 0 2 |", "faulty 1 2 |")
        self.says(desk, "run sound", "1")
        self.says(desk, "run faulty", "dry")
        self.says(desk, "trail 0.7", "a")
        self.refused(desk, "trail mark", NoPlace)
        for row in ("part", "verdict -", "verdict a", "count", "fewest", "causes", "remedies", "even", "shares"):
            self.refused(desk, row, NoCase)
        self.says(desk, "most 1", "ok")
        self.says(desk, "run sound", "dry")

    def test_the_most(self):
        desk = told_desk("plan wheel 997 / names a b / pieces 0 / mark b / again a / a = a + b / end", "sound 0 996 |", "faulty 996 996 |")
        # 996 rounds of two steps and a look.
        self.says(desk, "run faulty", "996")
        for most, wanted in ((1993, "996"), (1992, "dry"), (0, "dry"), (3000, "996")):
            self.says(desk, f"most {most}", "ok")
            self.says(desk, "run faulty", wanted)
        forever = told_desk("plan wheel 2 / names a / pieces 0 / mark a / again a / end", "faulty 1 |")
        self.says(forever, "trail 0.2999", "a")
        self.refused(forever, "trail 0.3000", NoPlace)
        self.says(forever, "most 10", "ok")
        self.says(forever, "trail 0.9", "a")
        self.refused(forever, "trail 0.10", NoPlace)

    def test_names_that_are_words_of_rows(self):
        desk = told_desk("plan wheel 10 / names mark none if / pieces 0 / mark none / none = mark + if", "sound 1 2 3 |", "faulty 2 3 4 |")
        for row, wanted in (
            ("part", "0 mark if"), ("trail mark", "mark if"), ("verdict mark none", "other"),
            ("verdict mark if", "faulty"), ("causes", "mark if"),
            ("shares", "mark:1/2 none:0/1 if:1/2"), ("run sound", "4"),
        ):
            self.says(desk, row, wanted)


class MadeCasesTest(DeskTest):
    def test_as_the_functions_tell(self):
        for case in list(made_cases(range(80), 60)) + list(busy_cases(range(40))):
            desk = case_desk(case)
            plan, sound, faulty, most = case
            self.says(desk, "run sound", str(marked_otherwise(plan, sound, most)))
            self.says(desk, "run faulty", str(marked_otherwise(plan, faulty, most)))
            self.says(desk, "count", " ".join(map(str, counted(case))))
            self.says(desk, "fewest", mix_text(fewest(case)))
            self.says(desk, "causes", " / ".join(map(mix_text, least_causes(case))))
            self.says(desk, "remedies", " / ".join(map(mix_text, least_remedies(case))))
            self.says(desk, "even", even(case)[0])
            self.says(desk, "shares", " ".join(f"{thing_text(thing)}:{n}/{d}" for thing, (n, d) in shares(case)))
            for mix in all_mixes(case)[:8]:
                self.says(desk, "verdict " + (mix_text(mix) or "-"), verdict_otherwise(case, mix))

    def test_partings_and_trails(self):
        partings = 0
        for plan, one, other in made_pairs(range(80), 60):
            desk = case_desk((plan, one, other, 60))
            told = first_parting(plan, one, other, 60)
            self.says(desk, "part", "none" if told is None else ".".join(map(str, told[0])) + " " + mix_text(told[1]))
            sources = Sources(plan, other, 60)
            for place, _ in sources.steps[:20]:
                self.says(desk, "trail " + ".".join(map(str, place)), mix_text(sources.trail(place)[1]) or "none")
            self.says(desk, "trail mark", mix_text(sources.trail(None)[1]) or "none")
            partings += told is not None
        self.assertGreater(partings, 30)


class AnewTest(DeskTest):
    def test_behind_each_stand_told_anew_all_is_of_these(self):
        desk = told_desk(PLAN, SOUND, FAULTY)
        self.says(desk, "fewest", "b c #0")
        self.says(desk, "faulty 0 0 0 | 5 4", "ok")
        for row, wanted in (("fewest", "#0"), ("shares", "#0:1/1 #1:0/1"), ("run faulty", "5"), ("verdict #1", "sound"), ("trail mark", "b c #0")):
            self.says(desk, row, wanted)
        self.says(desk, "sound 0 2 2 | 5 4", "ok")
        for row, wanted in (("run sound", "9"), ("fewest", "b"), ("part", "1 b c"), ("count", "1 3 0")):
            self.says(desk, row, wanted)
        self.says(desk, "faulty 0 2 2 | 5 4", "ok")
        self.refused(desk, "fewest", NoCase)
        self.says(desk, "part", "none")
        self.says(desk, FAULTY, "ok")
        self.says(desk, SOUND, "ok")
        self.says(desk, "fewest", "b c #0")

    def test_behind_each_most_told_anew(self):
        desk = told_desk(PLAN, SOUND, FAULTY)
        self.says(desk, "most 3", "ok")
        self.says(desk, "run sound", "0")
        self.says(desk, "run faulty", "dry")
        self.refused(desk, "count", NoCase)
        self.says(desk, "most 4", "ok")
        self.says(desk, "count", "3 1 4")

    def test_a_new_plan_takes_the_stands_away(self):
        for plan in (PLAN, PLAN.replace("10", "11")):
            desk = told_desk(PLAN, SOUND, FAULTY, plan)
            for row in ALL_ASKING:
                self.refused(desk, row, NoLine)
            self.says(desk, SOUND, "ok")
            self.says(desk, "run sound", "0")
            self.refused(desk, "run faulty", NoLine)
            for row in ASKING_BOTH:
                self.refused(desk, row, NoLine)
            self.says(desk, FAULTY, "ok")
            self.says(desk, "count", "3 1 4")

    def test_a_new_plan_leaves_the_most(self):
        desk = told_desk("most 3", PLAN, FAULTY)
        self.says(desk, "run faulty", "dry")
        for row in (PLAN, FAULTY):
            self.says(desk, row, "ok")
        self.says(desk, "run faulty", "dry")
        for row in ("most 4", PLAN, FAULTY):
            self.says(desk, row, "ok")
        self.says(desk, "run faulty", "6")

    def test_two_desks_by_turns(self):
        one, other = Desk(), Desk()
        self.says(one, PLAN, "ok")
        self.refused(other, SOUND, NoLine)
        self.says(other, "plan wheel 2 / names x / pieces 0 / mark x", "ok")
        for row in (SOUND, FAULTY, "most 3"):
            self.says(one, row, "ok")
        self.refused(other, "run sound", NoLine)
        self.says(other, "sound 0 |", "ok")
        self.says(other, "faulty 1 |", "ok")
        self.says(other, "fewest", "x")
        self.says(one, "run faulty", "dry")
        self.says(one, "most 9", "ok")
        self.says(one, "fewest", "b c #0")
        self.says(other, "most 0", "ok")
        self.says(one, "run faulty", "6")
        self.says(other, "run faulty", "1")

    def test_asked_again(self):
        desk = told_desk(PLAN, SOUND, FAULTY)
        first = self.answers(desk)
        self.assertEqual(self.answers(desk), first)
        self.assertEqual(self.answers(desk), first)


class NoLineTest(DeskTest):
    WRONG = (
        "", " ", "x", "Plan", "plan", "planx", "sound", "faulty", "most", "run", "trail", "verdict", "PART", "part ",
        " part", "part x", "count ", "count 1", "fewest 1",
        "causes x", "remedies ", "even ", "even x", "shares -", "ok", "none", "dry", "run  sound", "run sound ",
        " run sound", "run x", "run ", "run Sound", "run sound faulty",
        "run most", "most ", "most 3001", "most 10000", "most 00", "most 01", "most -1", "most +1", "most x",
        "most 1 ", "most  1", "most 1 1", "most 1.0", "most 3,000",
        "most " + "9" * 60, "most " + "0" * 60, "trail ", "trail  0", "trail 0 ", "trail .", "trail 0.", "trail .0",
        "trail 0..0", "trail 00", "trail 0.01", "trail -1",
        "trail +1", "trail a", "trail None", "trail Mark", "trail mark ", "trail 0 0", "trail 0,0", "trail 0.a",
        "trail (0,)", "trail -", "verdict ", "verdict  ", "verdict --",
        "verdict - -", "verdict - a", "verdict a -", "verdict A", "verdict 1", "verdict #", "verdict #a",
        "verdict # 1", "verdict #01", "verdict #00", "verdict #-1", "verdict ##1",
        "verdict a  b", "verdict a ", "verdict  a", "verdict a,b", "verdict abcdefghi", "verdict a1", "verdict b c #",
        "verdict b c #0 ", "verdict |", "verdict b / c",
        "stand 0 0 0 | 0 3", "Sound 0 0 0 | 0 3", "tree", "layers", "part - ", "verdict\t-", "quit", "plan\nwheel 2",
    )

    def test_by_their_words(self):
        for desk in (Desk(), told_desk(PLAN), told_desk(PLAN, SOUND), told_desk(PLAN, SOUND, FAULTY)):
            for row in self.WRONG:
                self.refused(desk, row, NoLine)

    def test_what_is_not_there(self):
        self.needs((), (SOUND, FAULTY, "sound", "sound x", "faulty 1") + ALL_ASKING)
        self.needs((PLAN,), ALL_ASKING)
        self.needs((PLAN, SOUND), ASKING_BOTH + ("run faulty", "trail mark", "trail 0", "trail 9.9", "verdict x", "verdict #99", "verdict c b"))
        self.needs((PLAN, FAULTY), ASKING_BOTH + ("run sound", "verdict x", "verdict #99"))

    def needs(self, told, rows):
        desk = told_desk(*told)
        for row in rows:
            self.refused(desk, row, NoLine)

    def test_one_stand_suffices_where_it_is_told_so(self):
        desk = told_desk(PLAN, SOUND)
        self.says(desk, "run sound", "0")
        desk = told_desk(PLAN, FAULTY)
        self.says(desk, "run faulty", "6")
        self.says(desk, "trail mark", "b c #0")
        self.says(desk, "trail 1", "b c")

    def test_the_most_needs_nothing(self):
        for most in (0, 1, 9, 10, 2999, 3000):
            self.says(Desk(), f"most {most}", "ok")


class LaterRefusalsTest(DeskTest):
    def test_the_text_of_a_plan(self):
        for text, row in (
            ("", 0), ("wheel 1", 0), ("wheel 10", 1), ("wheel 10 / names a", 2),
            ("wheel 10 / names a / pieces 0 / mark a / if a", 5),
            ("wheel 10 / names a / pieces 0 / mark a / a = 10", 4), ("wheel 10/names a", 0), ("wheel 10 /", 0),
            ("wheel 10 / ", 1), ("wheel 10 /  / names a", 1),
            (" wheel 10", 0), ("/ wheel 10", 0), (" / wheel 10", 0),
            ("wheel 10 / names a / pieces 0 / mark a / a = 1 / end", 5),
            ("wheel 10 / names a / pieces 0 / mark a / ", 4), ("wheel 10 / names a / pieces 0 / mark a ", 3),
        ):
            for desk in (Desk(), told_desk(PLAN, SOUND, FAULTY)):
                error = self.refused(desk, "plan " + text, NoRow)
                self.assertEqual(error.row, row, text)
        desk = told_desk(PLAN, SOUND, FAULTY)
        self.refused(desk, "plan wheel 10", NoRow)
        self.says(desk, "fewest", "b c #0")

    def test_the_text_of_a_stand(self):
        for text in ("", " ", "0", "0 0 0 |", "0 0 0 | 0", "0 0 | 0 3", "0 0 10 | 0 3", "0 0 00 | 0 3", "0 0 0 | 0 3 ", " 0 0 0 | 0 3", "0 0 0 | 0 -3", "x", "-"):
            for desk in (told_desk(PLAN), told_desk(PLAN, SOUND), told_desk(PLAN, SOUND, FAULTY)):
                for side in ("sound", "faulty"):
                    self.refused(desk, f"{side} {text}", NoText)

    def test_things_that_are_no_mix(self):
        desk = told_desk(PLAN, SOUND, FAULTY)
        for things in (
            "a", "#1", "c b", "#0 b", "b b", "#0 #0", "x", "#2", "#99", "#" + "9" * 60, "b c #0 #1", "a b c #0",
            "b #0 c", "abcdefgh", "if", "b x", "mark",
        ):
            self.refused(desk, "verdict " + things, NoText)

    def test_no_mix_goes_ahead_of_no_case(self):
        # The marks are alike, and b and c unlike.
        desk = told_desk(PLAN, SOUND, "faulty 0 1 0 | 0 3")
        self.refused(desk, "verdict b", NoCase)
        self.refused(desk, "verdict -", NoCase)
        self.refused(desk, "verdict c", NoText)
        self.refused(desk, "verdict x", NoText)
        self.refused(desk, "verdict X", NoLine)
        for row in ("count", "fewest", "causes", "remedies", "even", "shares"):
            self.refused(desk, row, NoCase)
        self.says(desk, "part", "none")

    def test_no_place(self):
        desk = told_desk(PLAN, SOUND, FAULTY)
        for place in ("3", "2.0.0", "2.1", "2.1.1", "0.0", "9" * 60, "0.0.0.0.0.0.0.0.0.0"):
            self.refused(desk, "trail " + place, NoPlace)

    def test_too_many(self):
        desk = case_desk(threshold_case(9, 2))
        for row in ("count", "fewest", "causes", "remedies", "even", "shares"):
            self.refused(desk, row, TooMany)
        self.says(desk, "verdict #0 #1", "faulty")
        self.says(desk, "part", "1 #0")
        desk = case_desk(threshold_case(8, 8))
        self.says(desk, "causes", " ".join(f"#{i}" for i in range(8)))
        self.says(desk, "count", "255 1 0")

    def test_just_five_hundred_ends(self):
        few, many = case_desk(case_of_ends(500)), case_desk(case_of_ends(501))
        for row in ("count", "fewest", "causes", "remedies", "even", "shares"):
            self.assertIsInstance(few.say(row), str)
            self.refused(many, row, TooMany)


if __name__ == "__main__":
    unittest.main()
