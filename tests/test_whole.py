"""The whole promise: what the parts tell of one case agrees."""

import unittest
from fractions import Fraction

from tests.helper import busy_cases, great_cases, made_cases, run_otherwise, stand_otherwise, unlike_otherwise
from twinstride.beside import chain, first_parting, is_chain, partings, unlike
from twinstride.causes import are_causes, fewest, least_causes, least_remedies
from twinstride.desk import Desk
from twinstride.errors import Dry, TooMany
from twinstride.evens import even
from twinstride.layers import marks_counted
from twinstride.mixes import marks, verdict
from twinstride.moments import causes_at, makes_fault
from twinstride.narrowed import is_bare, is_narrowed, narrowed
from twinstride.shares import shares
from twinstride.texts import plan_rows, stand_text
from twinstride.trails import trail
from twinstride.trees import counted, is_tree, mark_by, tree
from twinstride.worths import bears, fewest_by


def cases():
    yield from made_cases(range(150), 60)
    yield from busy_cases(range(100))
    for case in great_cases(range(150)):
        try:
            tree(case)
        except TooMany:
            continue
        yield case


class WholeTest(unittest.TestCase):
    def test_trails_partings_and_chains(self):
        for case in cases():
            plan, sound, faulty, most = case
            things = unlike(plan, sound, faulty)
            for stand in (sound, faulty):
                self.assertTrue(set(trail(plan, stand, most, None)[1]) & set(things))
            # What isn't read in the trail of the mark may be unlike, and the mark is the same.
            rest = [thing for thing in things if thing not in trail(plan, sound, most, None)[1]]
            run = run_otherwise(plan, stand_otherwise(case, rest), most)
            self.assertTrue(run[1] is None or verdict(case, rest) == "sound")
            told = first_parting(plan, sound, faulty, most)
            if told is not None:
                self.assertTrue(set(told[1]) <= set(things) and told[1])
            for place in [place for place, _, _ in partings(plan, sound, faulty, most)][:10] + [None]:
                self.assertIs(is_chain(plan, sound, faulty, most, place, chain(plan, sound, faulty, most, place)), True)

    def test_causes_and_remedies(self):
        for case in cases():
            told, causes, remedies = tree(case), least_causes(case), least_remedies(case)
            things = unlike_otherwise(*case[:3])
            sound, faulty = marks(case)
            self.assertIs(is_tree(case, told), True)
            self.assertIs(are_causes(case, causes), True)
            for cause in causes:
                self.assertEqual((mark_by(told, cause), verdict(case, cause)), (faulty, "faulty"))
                self.assertIs(is_bare(case, cause), True)
            for remedy in remedies:
                rest = [thing for thing in things if thing not in remedy]
                self.assertEqual((mark_by(told, rest), verdict(case, rest)), (sound, "sound"))
            self.assertIn(fewest(case), causes)
            self.assertEqual(len(fewest(case)), min(map(len, causes)))
            self.assertEqual(sum(counted(case)), 2 ** len(things))
            if even(case) == ("even",) and counted(case)[2] == 0:
                for remedy in remedies:
                    self.assertTrue(all(set(remedy) & set(cause) for cause in causes))

    def test_narrowed_and_shares(self):
        for case in cases():
            told = narrowed(case)
            self.assertIs(is_narrowed(case, told), True)
            causes = least_causes(case)
            self.assertTrue(any(set(cause) <= set(told[1]) for cause in causes))
            if even(case) == ("even",):
                self.assertIn(told[1], causes)
                self.assertTrue(all(n >= 0 for _, (n, _) in shares(case)))
            self.assertEqual(sum(Fraction(*share) for _, share in shares(case)), 1)

    def test_layers_agree_with_trees_where_no_mix_is_dry(self):
        seen = 0
        for case in cases():
            if "None" in repr(tree(case)):
                continue
            try:
                number, mix, worths = fewest_by(case, 2000)
            except (TooMany, Dry):
                continue
            sound, faulty = marks(case)
            self.assertEqual(number, len(fewest(case)))
            self.assertEqual((len(mix), verdict(case, mix)), (number, "faulty"))
            self.assertIs(bears(case, number, worths, 2000), True)
            self.assertIs(bears(case, number + 1, worths, 2000), False)
            many = dict(marks_counted(case, 2000))
            self.assertEqual((many[sound], many[faulty]), counted(case)[:2])
            seen += 1
        self.assertGreater(seen, 150)

    def test_moments(self):
        for case in cases():
            told = causes_at(case, 2000)
            self.assertEqual(told[0], fewest(case))
            self.assertEqual(told[-1], [case[0][4]])
            for k, cause in enumerate(told):
                self.assertIs(makes_fault(case, k, cause), True)
                self.assertIs(makes_fault(case, k, cause[1:]), False)

    def test_a_desk_tells_the_same(self):
        desk = Desk()
        for case in cases():
            plan, sound, faulty, most = case
            for row in ("plan " + " / ".join(plan_rows(plan)), f"most {most}", "sound " + stand_text(sound), "faulty " + stand_text(faulty)):
                self.assertEqual(desk.say(row), "ok")
            self.assertEqual(desk.say("even"), even(case)[0])
            self.assertEqual(desk.say("count"), " ".join(map(str, counted(case))))
            self.assertEqual(desk.say("causes").count(" / ") + 1, len(least_causes(case)))
            for mix in desk.say("causes").split(" / "):
                self.assertEqual(desk.say("verdict " + mix), "faulty")


if __name__ == "__main__":
    unittest.main()
