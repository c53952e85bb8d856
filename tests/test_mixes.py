import unittest

from tests.helper import TellsAnew, all_mixes, made_cases, marked_otherwise, plan_of, stand_otherwise
from twinstride.errors import NoCase
from twinstride.mixes import marks, mixed, verdict

SOUND = ((1, 2, 3), (4, 5, 6))
FAULTY = ((1, 3, 4), (4, 6, 7))
# The mark is b + c, and piece 1 besides where piece 2 is read as six; it runs on for ever where b is 3 and c is 3.
ROWS = (
    ("sum", "a", "b", "c"), ("take", "b", 2), ("put", "c", 6), ("same", "c", "b", "c"),
    ("if", "c", (("take", "b", 1), ("sum", "a", "a", "b")), ()),
    ("put", "b", 1), ("same", "b", "b", "a"), ("again", "b", ()),
)
CASE = (plan_of(ROWS), SOUND, FAULTY, 30)


class MarksTest(unittest.TestCase):
    def test_both_marks(self):
        self.assertEqual(repr(marks(CASE)), "(0, 7)")
        self.assertEqual(repr(marks((CASE[0], FAULTY, SOUND, 30))), "(7, 0)")

    def test_a_plan_without_rows(self):
        case = (plan_of([], mark="c"), SOUND, FAULTY, 0)
        self.assertEqual(marks(case), (3, 4))
        self.assertEqual(mixed(case, ["c", 2]), ((1, 2, 4), (4, 5, 7)))
        self.assertEqual(verdict(case, ["c"]), "faulty")
        self.assertEqual(verdict(case, ["b", 1]), "sound")

    def test_made_cases(self):
        for case in made_cases(range(200), 90):
            plan, sound, faulty, most = case
            wanted = (marked_otherwise(plan, sound, most), marked_otherwise(plan, faulty, most))
            self.assertEqual(repr(marks(case)), repr(wanted))


class NoCaseTest(unittest.TestCase):
    def refused(self, *case):
        with self.assertRaises(NoCase):
            marks(case)
        for mix in ([], ["a"], [0]):
            for call in (mixed, verdict):
                with self.assertRaises(NoCase):
                    call(case, mix)

    def test_alike_marks(self):
        self.refused(plan_of(ROWS), SOUND, SOUND, 30)
        self.refused(plan_of([], mark="a"), SOUND, FAULTY, 30)
        self.refused(plan_of([("put", "b", 0)], mark="b"), SOUND, FAULTY, 30)

    def test_a_dry_run(self):
        plan = plan_of([("again", "a", ()), ("take", "b", 0)], mark="c")
        dry, wet = ((1, 2, 3), (4, 5, 6)), ((0, 2, 4), (4, 5, 6))
        self.refused(plan, dry, wet, 30)
        self.refused(plan, wet, dry, 30)
        self.refused(plan, dry, dry, 30)
        self.refused(plan, dry, ((2, 2, 2), (4, 5, 6)), 30)

    def test_a_most_that_just_suffices(self):
        plan = plan_of([("if", "b", (("put", "b", 1), ("put", "b", 2)), (("put", "b", 3),))], mark="c")
        one, other = ((0, 1, 1), (0, 0, 0)), ((0, 0, 2), (0, 0, 0))
        self.assertEqual(marks((plan, one, other, 3)), (1, 2))
        self.assertEqual(marks((plan, other, one, 3)), (2, 1))
        self.refused(plan, one, other, 2)
        self.refused(plan, other, one, 2)


class MixedTest(unittest.TestCase):
    def test_none_and_all(self):
        self.assertEqual(repr(mixed(CASE, [])), repr(SOUND))
        self.assertEqual(repr(mixed(CASE, ["b", "c", 1, 2])), repr(FAULTY))

    def test_names_and_pieces(self):
        self.assertEqual(repr(mixed(CASE, ["b"])), "((1, 3, 3), (4, 5, 6))")
        self.assertEqual(repr(mixed(CASE, ["c"])), "((1, 2, 4), (4, 5, 6))")
        self.assertEqual(repr(mixed(CASE, [1])), "((1, 2, 3), (4, 6, 6))")
        self.assertEqual(repr(mixed(CASE, [2])), "((1, 2, 3), (4, 5, 7))")
        self.assertEqual(repr(mixed(CASE, ["b", 2])), "((1, 3, 3), (4, 5, 7))")

    def test_a_dry_mix_is_a_stand_too(self):
        self.assertEqual(verdict(CASE, ["b", 1]), "other")
        self.assertEqual(mixed(CASE, ["b", 1]), ((1, 3, 3), (4, 6, 6)))

    def test_no_pieces(self):
        case = (plan_of([], many=0), ((1, 2, 3), ()), ((2, 2, 3), ()), 0)
        self.assertEqual(repr(mixed(case, [])), "((1, 2, 3), ())")
        self.assertEqual(repr(mixed(case, ["a"])), "((2, 2, 3), ())")

    def test_made_cases(self):
        for case in made_cases(range(200), 90):
            for mix in all_mixes(case)[:40]:
                self.assertEqual(repr(mixed(case, mix)), repr(stand_otherwise(case, mix)))


class VerdictTest(unittest.TestCase):
    def test_the_three(self):
        told = {
            (): "sound", ("b",): "other", ("b", 1): "other", ("b", "c", 1, 2): "faulty", ("b", "c", 2): "faulty",
            ("c", 1): "other", (2,): "other", ("b", 2): "other", (1,): "other", ("b", "c"): "other",
        }
        for mix, wanted in told.items():
            self.assertEqual(verdict(CASE, list(mix)), wanted, mix)

    def test_another_mark_and_a_dry_mix(self):
        plan = plan_of([("sum", "a", "b", "c"), ("put", "b", 6), ("same", "b", "a", "b"), ("again", "b", ())])
        case = (plan, ((0, 1, 3), (0, 0, 0)), ((0, 2, 5), (0, 0, 0)), 30)
        self.assertEqual(marks(case), (4, 7))
        self.assertEqual(verdict(case, []), "sound")
        self.assertEqual(verdict(case, ["b"]), "other")
        self.assertEqual(verdict(case, ["c"]), "other")
        self.assertIsNone(marked_otherwise(plan, mixed(case, ["c"]), 30))
        self.assertEqual(verdict(case, ["b", "c"]), "faulty")

    def test_the_sound_and_faulty_mark_in_other_mixes(self):
        case = (plan_of([("by", "a", "b", "c")]), ((9, 0, 0), (0, 0, 0)), ((9, 1, 1), (0, 0, 1)), 9)
        told = {(): "sound", ("b",): "sound", ("c",): "sound", ("b", "c"): "faulty", ("b", "c", 2): "faulty", (2,): "sound"}
        for mix, wanted in told.items():
            self.assertEqual(verdict(case, list(mix)), wanted)

    def test_made_cases(self):
        seen = {"sound": 0, "faulty": 0, "other": 0, "dry": 0}
        for case in made_cases(range(300), 60):
            plan, sound, faulty, most = case
            two = {marked_otherwise(plan, sound, most): "sound", marked_otherwise(plan, faulty, most): "faulty"}
            for mix in all_mixes(case)[:64]:
                mark = marked_otherwise(plan, stand_otherwise(case, mix), most)
                wanted = two.get(mark, "other")
                self.assertEqual(verdict(case, mix), wanted)
                seen["dry" if mark is None else wanted] += 1
        self.assertGreater(min(seen.values()), 10, seen)


class NothingKeptTest(unittest.TestCase, TellsAnew):
    def test_what_is_handed_in_is_as_it_was(self):
        self.tells_anew(marks, CASE)
        for mix in ([], ["b"], ["b", 1], ["b", "c", 1, 2]):
            self.tells_anew(mixed, CASE, mix)
            self.tells_anew(verdict, CASE, mix)

    def test_made_cases(self):
        for case in made_cases(range(80), 60):
            for mix in all_mixes(case)[:4]:
                self.tells_anew(mixed, case, mix)
                self.tells_anew(verdict, case, mix)


if __name__ == "__main__":
    unittest.main()
