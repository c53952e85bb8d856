import random
import unittest

from tests.helper import (
    ANY_THINGS, TellsAnew, busy_cases, depths, great_cases, least, lone_cases, made_cases, plan_of, subsets,
    threshold_case, unlike_otherwise, verdict_otherwise, verdicts_of, verdicts_otherwise,
)
from twinstride.errors import NoCase
from twinstride.narrowed import is_bare, is_narrowed, narrowed

SOUND = ((1, 2, 3), (4, 5, 6))
FAULTY = ((2, 3, 4), (5, 6, 7))
WRONG = (
    (plan_of([]), SOUND, SOUND, 30), (plan_of([("again", "a", ())]), SOUND, FAULTY, 30),
    threshold_case(10, 2, most=5), (plan_of([("put", "a", 1)]), SOUND, FAULTY, 1),
)


def one_less(mix):
    return [mix[:at] + mix[at + 1:] for at in range(len(mix))]


def is_mix(case, thing):
    if type(thing) is not list or any(type(part) not in (str, int) for part in thing):
        return False
    places = [unlike_otherwise(*case[:3]).index(part) for part in thing if part in unlike_otherwise(*case[:3])]
    return len(places) == len(thing) and places == sorted(set(places))


def is_narrowed_otherwise(case, thing):
    """What is_narrowed must tell, as point 22 has it."""
    if type(thing) is not tuple or len(thing) != 2 or type(thing[0]) is not list or not thing[0]:
        return False
    askings, cause = thing
    for asking in askings:
        if type(asking) is not tuple or len(asking) != 2 or not is_mix(case, asking[0]):
            return False
    right = verdicts_of(case, [mix for mix, _ in askings])
    if any(type(verdict) is not str or verdict != right[tuple(mix)] for mix, verdict in askings):
        return False
    mixes = [mix for mix, _ in askings]
    if len(right) != len(mixes) or mixes[0] != unlike_otherwise(*case[:3]) or not is_mix(case, cause):
        return False
    return cause in mixes and right[tuple(cause)] == "faulty" and all(
        less in mixes and right[tuple(less)] != "faulty" for less in one_less(cause)
    )


def halvings(n):
    count = 0
    while n > 1:
        n = (n + 1) // 2
        count += 1
    return count


def stairs_case(many, needed):
    """Wrong where just the first so many pieces are faulty, or more of them, but none behind a sound one."""
    loop = (("sum", "i", "i", "one"), ("same", "b", "i", "all"), ("if", "b", (("put", "go", 0),), (("pick", "go", "i"),)))
    count = (("again", "go", loop), ("put", "go", needed), ("less", "a", "i", "go"), ("put", "go", 1))
    rest = (("same", "b", "i", "all"), ("if", "b", (("put", "go", 0),), (("pick", "b", "i"), ("sum", "c", "c", "b"))))
    rows = (("pick", "go", "i"),) + count + (("again", "go", rest + (("sum", "i", "i", "one"),)),)
    rows += (("if", "c", (("put", "a", 1),), ()),)
    plan = (997, ("a", "b", "c", "i", "one", "all", "go"), many, rows, "a")
    sound = ((0, 0, 0, 0, 1, many, 0), (0,) * many)
    return plan, sound, (sound[0], (1,) * many), 3000


class NarrowedTest(unittest.TestCase):
    def narrowed_is_right(self, case):
        told = narrowed(case)
        self.assertTrue(is_narrowed_otherwise(case, told), told)
        self.assertIs(is_narrowed(case, told), True)
        self.assertIs(is_bare(case, told[1]), True)
        n = len(unlike_otherwise(*case[:3]))
        self.assertLessEqual(len(told[0]), n * n + 3 * n + 2)
        return told

    def test_a_single_unlike_thing(self):
        case = (plan_of([]), SOUND, ((2, 2, 3), SOUND[1]), 0)
        self.assertEqual(repr(narrowed(case)), "([(['a'], 'faulty'), ([], 'sound')], ['a'])")

    def test_all_are_needed(self):
        for many in (2, 3, 5, 12, 28):
            told = self.narrowed_is_right(threshold_case(many, many))
            self.assertEqual(told[1], list(range(many)))

    def test_some_are_needed(self):
        for many in (2, 5, 8, 12, 28):
            for needed in (1, 2, many // 2, many - 1):
                told = self.narrowed_is_right(threshold_case(many, needed))
                self.assertEqual(len(told[1]), needed)

    def test_many_askings(self):
        # Only the last of the faulty ones can go.
        for many, needed in ((9, 6), (20, 12), (40, 25)):
            case = stairs_case(many, needed)
            self.assertEqual(verdict_otherwise(case, list(range(needed))), "faulty")
            self.assertEqual(verdict_otherwise(case, list(range(needed - 1))), "sound")
            self.assertEqual(verdict_otherwise(case, list(range(1, many))), "sound")
            told = self.narrowed_is_right(case)
            self.assertEqual(told[1], list(range(needed)))

    def test_made_cases(self):
        seen = {"other": 0, "several": 0}
        cases = [case for most in (60, 9, 6) for case in made_cases(range(200), most)]
        for case in cases + list(busy_cases(range(300))):
            told = self.narrowed_is_right(case)
            seen["other"] += "other" in dict(map(reversed, told[0]))
            seen["several"] += len(told[1]) > 1
        self.assertGreater(min(seen.values()), 10, seen)

    def test_great_cases(self):
        for case in great_cases(range(200)):
            self.narrowed_is_right(case)

    def test_one_certain_thing(self):
        for n in range(1, 53):
            for case, thing in lone_cases(n):
                told = narrowed(case)
                self.assertLessEqual(len(told[0]), 2 * halvings(n) + 2)
                self.assertEqual(told[1], [thing])
                self.assertEqual(told[0][0], (unlike_otherwise(*case[:3]), "faulty"))
                self.assertIs(is_narrowed(case, told), True)
                self.assertTrue(is_narrowed_otherwise(case, told))

    def test_no_case(self):
        for case in WRONG:
            with self.assertRaises(NoCase):
                narrowed(case)
            with self.assertRaises(NoCase):
                is_bare(case, [])
            for thing in ANY_THINGS:
                with self.assertRaises(NoCase):
                    is_narrowed(case, thing)


class IsNarrowedTest(unittest.TestCase):
    def asked(self, case, thing):
        wanted = is_narrowed_otherwise(case, thing)
        self.assertIs(is_narrowed(case, thing), wanted, thing)
        return wanted

    def with_askings(self, case, mixes, cause):
        return ([(list(mix), verdict_otherwise(case, list(mix))) for mix in mixes], cause)

    def test_askings_in_any_number_and_order(self):
        case = threshold_case(4, 2)
        every = subsets([0, 1, 2, 3])
        first = (0, 1, 2, 3)
        for seed in range(20):
            mixes = random.Random(seed).sample([mix for mix in every if mix != first], 15)
            for cause in ([0, 1], [2, 3]):
                self.assertTrue(self.asked(case, self.with_askings(case, [first] + mixes, cause)))
            self.assertFalse(self.asked(case, self.with_askings(case, mixes + [first], [0, 1])))
        self.assertTrue(self.asked(case, self.with_askings(case, [first, (3,), (1,), (1, 3)], [1, 3])))
        # A cause with a thing too many, one that isn't faulty, and the mix of nothing.
        for cause in ([0, 1, 2], [0], [], [0, 1, 2, 3]):
            self.assertFalse(self.asked(case, self.with_askings(case, [first] + every[:-1], cause)))
            self.assertFalse(self.asked(case, self.with_askings(case, every, cause)))
        self.assertFalse(self.asked(case, self.with_askings(case, [first, (3,), (1,)], [1, 3])))
        self.assertFalse(self.asked(case, self.with_askings(case, [first, (3,), (1, 3)], [1, 3])))
        self.assertFalse(self.asked(case, self.with_askings(case, [(1, 3), (3,), (1,)], [1, 3])))

    def test_changed_askings(self):
        for case in [threshold_case(5, 3), threshold_case(3, 1)] + list(busy_cases(range(30))):
            askings, cause = narrowed(case)
            for k in range(len(askings)):
                mix, verdict = askings[k]
                for other in ("sound", "faulty", "other", "Sound", "", None, 1):
                    thing = (askings[:k] + [(mix, other)] + askings[k + 1:], cause)
                    self.assertEqual(self.asked(case, thing), other == verdict)
                self.assertFalse(self.asked(case, (askings + [askings[k]], cause)))
                self.asked(case, (askings[:k] + askings[k + 1:], cause))
                self.asked(case, (askings[k:] + askings[:k], cause))
                self.asked(case, (askings, mix))
                swapped = askings[:k] + [(list(reversed(mix)), verdict)] + askings[k + 1:]
                self.assertEqual(self.asked(case, (swapped, cause)), len(mix) < 2)
                doubled = askings[:k] + [(mix + mix[-1:], verdict)] + askings[k + 1:]
                self.assertEqual(self.asked(case, (doubled, cause)), len(mix) == 0)
                for lists in ((tuple(mix), verdict), [mix, verdict], (mix, verdict, verdict), (mix,), mix):
                    self.assertFalse(self.asked(case, (askings[:k] + [lists] + askings[k + 1:], cause)))
            for thing in ([askings, cause], (tuple(askings), cause), (askings, tuple(cause)), (askings, cause, cause), askings):
                self.assertFalse(self.asked(case, thing))
            self.assertFalse(self.asked(case, ([], cause)))
            self.assertFalse(self.asked(case, (askings, list(reversed(cause)) + cause)))

    def changed(self, told, other, path):
        """What was told, with another thing at a path of numbers."""
        if not path:
            return other
        parts = list(told)
        parts[path[0]] = self.changed(told[path[0]], other, path[1:])
        return tuple(parts) if isinstance(told, tuple) else parts

    def paths(self, told):
        yield ()
        for number, part in enumerate(told if isinstance(told, (tuple, list)) else ()):
            for path in self.paths(part):
                yield (number,) + path

    def test_any_thing_at_any_depth(self):
        rows = [("take", "a", 1), ("by", "a", "a", "b")]
        case = (plan_of(rows), ((0, 0, 1), (0, 0, 0)), ((1, 1, 1), (1, 1, 0)), 9)
        told = narrowed(case)
        self.assertEqual(told[1], ["b", 1])
        for path in self.paths(told):
            for thing in ANY_THINGS + ("sound", "faulty", "other", "b", "c", ["b"], ["b", 1], ["b", True], [1, "b"]):
                self.asked(case, self.changed(told, thing, path))
        for thing in ANY_THINGS:
            self.assertFalse(self.asked(case, thing))

    def test_truths_are_no_pieces(self):
        case = (plan_of([("take", "a", 1)]), SOUND, (SOUND[0], (5, 6, 6)), 9)
        good = ([([0, 1], "faulty"), ([1], "faulty"), ([], "sound")], [1])
        self.assertTrue(self.asked(case, good))
        self.assertFalse(self.asked(case, (good[0], [True])))
        self.assertFalse(self.asked(case, ([([0, 1], "faulty"), ([True], "faulty"), ([], "sound")], [1])))
        self.assertFalse(self.asked(case, ([([False, True], "faulty"), ([1], "faulty"), ([], "sound")], [1])))


class IsBareTest(unittest.TestCase):
    def test_by_hand(self):
        case = threshold_case(4, 2)
        for mix in subsets([0, 1, 2, 3]):
            self.assertIs(is_bare(case, list(mix)), len(mix) == 2)

    def test_bare_but_not_least(self):
        # On a wheel of two three pieces go wrong as one does, but no two.
        rows = [("put", "a", 0)] + [row for i in range(3) for row in (("take", "b", i), ("sum", "a", "a", "b"))]
        case = (plan_of(rows, m=2), ((0, 0, 0), (0, 0, 0)), ((0, 0, 0), (1, 1, 1)), 9)
        for mix in subsets([0, 1, 2]):
            self.assertIs(is_bare(case, list(mix)), len(mix) in (1, 3))

    def test_made_cases(self):
        seen = 0
        for case in list(made_cases(range(100), 60)) + list(busy_cases(range(100))):
            verdicts = verdicts_otherwise(case)
            for mix, verdict in verdicts.items():
                less = [verdicts[one] for one in one_less(mix)]
                wanted = verdict == "faulty" and "faulty" not in less
                self.assertIs(is_bare(case, list(mix)), wanted)
                seen += wanted and "other" in less
            for mix in least([mix for mix, verdict in verdicts.items() if verdict == "faulty"]):
                self.assertIs(is_bare(case, mix), True)
            self.assertIs(is_bare(case, []), False)
        self.assertGreater(seen, 3)


class NothingKeptTest(unittest.TestCase, TellsAnew):
    def test_what_is_handed_in_is_as_it_was(self):
        for case in list(made_cases(range(50), 60)) + list(busy_cases(range(20))):
            self.tells_anew(narrowed, case)
            self.tells_anew(is_narrowed, case, narrowed(case))
            self.tells_anew(is_narrowed, case, ([(["a"], [1])], [[]]))
            self.tells_anew(is_bare, case, narrowed(case)[1])

    def test_each_mix_is_a_list_of_its_own(self):
        for case in (threshold_case(1, 1), threshold_case(5, 3), threshold_case(5, 5)):
            told = narrowed(case)
            lists = [part for part in depths(told) if isinstance(part, list)]
            self.assertEqual(len({id(part) for part in lists}), len(lists))


if __name__ == "__main__":
    unittest.main()
