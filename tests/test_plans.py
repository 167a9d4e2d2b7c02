"""[3.1] to [3.3]: plans, what they bear, and weak lassos."""

import copy
import random
import unittest

from howmanyslips.plans import does_follow, is_plan, weak_holds, weak_lasso, with_plan, worths
from howmanyslips.plays import is_lasso, lasso_weight, winner
from tests import second
from tests.helpers import GAME, JUNK, ErrorsCase, Stranger, chance_lasso, chance_plan, changed, small_games

# Place 0 has two moves and a slip on the edge of one of them; place 2 is the foe's, place 3 lost.
FORK = (
    ("keeper", 0, (1, 2), ((1, 4),)), ("keeper", 2, (0, 1), ((3, 2),)), ("foe", 0, (0, 1, 2), ()),
    ("keeper", 1, (3,), ()),
)
FORK_PLAN = (2, 1, None, 3)

BAD_PLANS = {
    "too short": (2, 1, None), "too long": (2, 1, None, 3, 3), "nothing": (), "a list": [2, 1, None, 3],
    "no move": (0, 1, None, 3), "the place of a slip": (2, 3, None, 3), "a place too far": (4, 1, None, 3),
    "a move below 0": (-1, 1, None, 3), "None at a place of the keeper": (2, None, None, 3),
    "a move at a place of the foe": (2, 1, 0, 3), "a bool": (2, True, None, 3), "a bool for 0": (2, False, None, 3),
    "a tuple for a move": ((2,), 1, None, 3), "a string": ("2", 1, None, 3), "a stranger": (2, 1, Stranger(), 3),
    "False at a place of the foe": (2, 1, False, 3), "() at a place of the foe": (2, 1, (), 3),
    "exchanged": (2, 1, 3, None), "a dict": {0: 2, 1: 1, 2: None, 3: 3}, "all moves": ((1, 2), (0, 1), None, (3,)),
}

# Each is a game, a plan and its worths.
TOLD = {
    "one place alone, kept": ((("keeper", 0, (0,), ()),), (0,), ("ever",)),
    "one place alone, lost": ((("keeper", 1, (0,), ()),), (0,), (0,)),
    "one place of the foe, kept": ((("foe", 4, (0,), ()),), (None,), ("ever",)),
    "one place of the foe, lost": ((("foe", 3, (0,), ()),), (None,), (0,)),
    "a slip to the place itself, kept": ((("keeper", 2, (0,), ((0, 1),)),), (0,), ("ever",)),
    "a slip to the place itself, lost": ((("keeper", 1, (0,), ((0, 5),)),), (0,), (0,)),
    "a slip on the edge of a move": (
        (("keeper", 0, (1,), ((1, 3),)), ("keeper", 0, (1,), ((2, 2),)), ("foe", 1, (2,), ())), (1, 1, None), (2, 2, 0)),
    "the lighter of two slips": (
        (("keeper", 0, (0,), ((1, 7), (2, 5))), ("foe", 1, (1,), ()), ("foe", 3, (2,), ())), (0, None, None), (5, 0, 0)),
    "two light slips and a heavy one": (
        (("keeper", 0, (0,), ((1, 2), (2, 9))), ("keeper", 0, (0,), ((2, 3),)), ("foe", 1, (2,), ())),
        (0, 0, None), (5, 3, 0)),
    "a ring of slips is lost, one of moves is not": (
        (("keeper", 0, (0,), ((1, 1),)), ("keeper", 1, (0,), ())), (0, 0), ("any", "any")),
    "a ring of slips with an even mark above": (
        (("keeper", 2, (0,), ((1, 1),)), ("keeper", 1, (0,), ())), (0, 0), ("ever", "ever")),
    "a slip to the place itself past the way out": (
        (("keeper", 1, (1,), ((0, 9),)), ("keeper", 0, (1,), ())), (1, 1), ("any", "ever")),
    "endless slips of which each is light, and a heavy one": (
        (("keeper", 0, (0,), ((1, 1), (2, 8))), ("keeper", 1, (0,), ()), ("foe", 1, (2,), ())),
        (0, 0, None), (8, 8, 0)),
    "a ring with a greater even mark": ((("foe", 1, (1,), ()), ("foe", 2, (0,), ())), (None, None), ("ever", "ever")),
    "a ring with a greater odd mark": ((("foe", 3, (1,), ()), ("foe", 2, (0,), ())), (None, None), (0, 0)),
    "the foe's choice": (
        (("foe", 0, (1, 2), ()), ("foe", 2, (1,), ()), ("keeper", 0, (2,), ((3, 4),)), ("foe", 1, (3,), ())),
        (None, None, 2, None), (4, "ever", 4, 0)),
    "the plan takes the worse move": (FORK, (1, 0, None, 3), (2, 2, 2, 0)),
    "a slip through an even ring": (
        (("keeper", 4, (1,), ((2, 1),)), ("keeper", 3, (0,), ((1, 1),)), ("keeper", 5, (0,), ())),
        (1, 0, 0), ("any", "any", "any")),
    "the document's": (GAME, (0, 2, None), (1, 0, 0)),
}


class PlansTest(unittest.TestCase):
    def test_plans(self):
        for plan in second.plans(FORK):
            self.assertIs(is_plan(FORK, plan), True)
        self.assertIs(is_plan((("foe", 0, (0,), ()),), (None,)), True)

    def test_values_that_are_no_plans(self):
        for name, thing in (*BAD_PLANS.items(), *enumerate(JUNK)):
            with self.subTest(name=name):
                self.assertIs(is_plan(FORK, thing), False)

    def test_each_change_of_a_plan_is_judged_rightly(self):
        chance = random.Random(31)
        answers = {True: 0, False: 0}
        for game in small_games(31, 60):
            plan, every = chance_plan(chance, game), list(map(repr, second.plans(game)))
            for thing in (*changed(plan), *[plan[:at] + (other,) + plan[at + 1:]
                                            for at in range(len(plan)) for other in (None, 0, 1, 2, 3)]):
                self.assertIs(is_plan(game, thing), repr(thing) in every, (game, thing))
                answers[repr(thing) in every] += 1
        self.assertTrue(min(answers.values()) > 100, answers)

    def test_with_plan_leaves_the_move_of_the_plan(self):
        self.assertEqual(with_plan(FORK, FORK_PLAN), (
            ("keeper", 0, (2,), ((1, 4),)), ("keeper", 2, (1,), ((3, 2),)), ("foe", 0, (0, 1, 2), ()),
            ("keeper", 1, (3,), ())))
        chance = random.Random(32)
        for game in small_games(32, 60):
            plan = chance_plan(chance, game)
            for row, alone, move in zip(game, with_plan(game, plan), plan, strict=True):
                self.assertEqual(repr(alone), repr(row if move is None else (row[0], row[1], (move,), row[3])))

    def test_does_follow(self):
        cases = {
            True: (
                ((), ((1, "move"),)), (((0, "move"),), ((2, "move"),)),
                (((0, "slip"),), ((1, "move"),)), (((0, "move"), (2, "move"), (1, "slip")), ((3, "move"),)),
                ((), ((2, "move"), (0, "move"))), (((2, "move"),), ((2, "move"),)),
            ),
            False: (
                (((0, "move"),), ((1, "move"),)), ((), ((0, "move"), (1, "move"))), ((), ((0, "slip"), (1, "move"))),
                (((1, "move"),), ((0, "move"), (2, "move"))), ((), ((1, "move"), (0, "move"), (2, "move"))),
                (((2, "move"), (0, "move")), ((1, "move"),)), (((1, "move"), (0, "move")), ((2, "move"),)),
            ),
        }
        for answer, lassos in cases.items():
            for lasso in lassos:
                with self.subTest(lasso=lasso):
                    self.assertIs(does_follow(FORK, FORK_PLAN, lasso), answer)

    def test_does_follow_by_chance(self):
        chance = random.Random(33)
        answers = {True: 0, False: 0}
        for game in small_games(33, 200):
            plan, lasso = chance_plan(chance, game), chance_lasso(chance, game, 8)
            answer = does_follow(game, plan, lasso)
            self.assertIs(answer, follows(plan, lasso), (game, plan, lasso))
            answers[answer] += 1
            self.assertIs(does_follow(game, plan, chance_lasso(chance, with_plan(game, plan), 8)), True)
        self.assertTrue(min(answers.values()) > 20, answers)


def follows(plan, lasso):
    """The definition once more."""
    stem, loop = lasso
    steps = [*stem, *loop, loop[0]]
    for (place, how), (goal, _) in zip(steps, steps[1:]):
        if how == "move" and plan[place] is not None and plan[place] != goal:
            return False
    return True


class WorthsTest(unittest.TestCase):
    def test_worths(self):
        for name, (game, plan, told) in TOLD.items():
            with self.subTest(name=name):
                self.assertEqual(repr(worths(game, plan)), repr(told))

    def test_ladders_of_slips(self):
        rows = [("keeper", 0, (at,), ((at + 1, weight),)) for at, weight in enumerate((9, 1, 4, 2, 7, 3))]
        self.assertEqual(worths((*rows, ("foe", 5, (6,), ())), (0, 1, 2, 3, 4, 5, None)), (26, 17, 16, 12, 10, 3, 0))
        kept = tuple([*rows, ("foe", 6, (6,), ())])
        self.assertEqual(worths(kept, (0, 1, 2, 3, 4, 5, None)), ("ever",) * 7)

    def test_great_weights(self):
        game = (("keeper", 0, (0,), ((1, 10 ** 30),)), ("keeper", 0, (1,), ((2, 10 ** 31),)), ("foe", 1, (2,), ()))
        self.assertEqual(worths(game, (0, 1, None)), (11 * 10 ** 30, 10 ** 31, 0))

    def test_worths_by_a_second_way(self):
        met = {}
        for game in small_games(34, 300, many=5):
            for plan in second.plans(game):
                told = worths(game, plan)
                self.assertEqual(repr(told), repr(second.worths(game, plan)), (game, plan))
                for worth in told:
                    met[worth] = met.get(worth, 0) + 1
        self.assertTrue(min(met[worth] for worth in (0, 1, 2, 3, 4, "any", "ever")) > 10, met)

    def test_a_plan_bears_what_the_foe_cannot_spend(self):
        # A foe with a budget wins against a plan exactly if the budget is not less than an integer worth.
        chance = random.Random(35)
        for game in small_games(35, 60):
            plan = chance_plan(chance, game)
            told, alone = worths(game, plan), with_plan(game, plan)
            for budget in range(5):
                kept = second.kept(second.budget_rows(alone, budget))
                for place, worth in enumerate(told):
                    self.assertEqual((place, budget, "front") in kept, second.rank(worth) > (0, budget), (game, plan))
            kept = second.kept(second.will_rows(alone))
            self.assertEqual([(place, "front") in kept for place in range(len(game))],
                             [worth == "ever" for worth in told], (game, plan))


class WeakLassosTest(unittest.TestCase):
    def check(self, game, plan, place, worth, lasso):
        if worth == "ever":
            self.assertIsNone(lasso, (game, plan, place))
            return
        self.assertIs(is_lasso(game, lasso), True, (game, plan, place, lasso))
        self.assertEqual((lasso[0] + lasso[1])[0][0], place)
        self.assertTrue(follows(plan, lasso), (game, plan, place, lasso))
        self.assertEqual(winner(game, lasso), "foe", (game, plan, place, lasso))
        self.assertEqual(lasso_weight(game, lasso), "endless" if worth == "any" else worth, (game, plan, place))
        self.assertLessEqual(len(lasso[0]), len(game))
        self.assertLessEqual(len(lasso[1]), 2 * len(game))
        self.assertIs(weak_holds(game, plan, place, lasso), True, (game, plan, place, lasso))

    def test_weak_lassos(self):
        for name, (game, plan, told) in TOLD.items():
            for place, worth in enumerate(told):
                with self.subTest(name=name, place=place):
                    self.check(game, plan, place, worth, weak_lasso(game, plan, place))

    def test_weak_lassos_by_chance(self):
        chance = random.Random(36)
        for game in small_games(36, 400, many=6, mark=6, weight=9):
            plan = chance_plan(chance, game)
            for place, worth in enumerate(second.worths(game, plan)):
                self.check(game, plan, place, worth, weak_lasso(game, plan, place))

    def test_weak_lassos_through_many_places(self):
        rows = [("keeper", 0, (at,), ((at + 1, 9),)) for at in range(6)]
        lost = (*rows, ("keeper", 1, (6,), ()))
        plan = (0, 1, 2, 3, 4, 5, 6)
        self.check(lost, plan, 0, 54, weak_lasso(lost, plan, 0))
        ring = (*rows, ("keeper", 1, (0,), ()))
        self.check(ring, plan[:6] + (0,), 3, "any", weak_lasso(ring, plan[:6] + (0,), 3))

    def test_weak_holds_asks_each_thing(self):
        # From 0 the foe slips to 1 for 3, to 2 for 4; 1 and 2 are lost, 3 is kept.
        game = (
            ("keeper", 0, (0, 3), ((1, 3), (2, 4), (3, 1))), ("foe", 1, (1, 2), ()), ("keeper", 3, (2,), ((2, 1),)),
            ("keeper", 2, (3,), ((0, 2),)),
        )
        plan = (0, None, 2, 3)
        ring = ((1, "move"),)
        right = (
            (((0, "slip"),), ring), (((0, "move"), (0, "slip")), ring), (((0, "slip"), (1, "move")), ((2, "move"),)),
            (((0, "move"),) * 300 + ((0, "slip"),), ring * 400),
        )
        wrong = {
            "it begins elsewhere": ((), ring),
            "it begins elsewhere, with the weight": (((3, "slip"), (0, "slip")), ring),
            "it weighs more": (((0, "slip"),), ((2, "move"),)),
            "it weighs more by a step": (((0, "slip"), (1, "move"), (2, "slip")), ((2, "move"),)),
            "it slips for ever": (((0, "slip"),), ((2, "slip"),)),
            "it does not follow": (((0, "move"), (3, "slip"), (0, "slip")), ring),
            "the keeper wins": ((), ((0, "move"),)),
            "the keeper wins with the weight": (((0, "slip"), (3, "slip")), ((0, "move"),)),
            "no step leads to the next": (((0, "move"),), ring),
            "the loop does not close": (((0, "slip"),), ((1, "move"), (2, "move"))),
            "None": None, "nothing": ((), ()), "a list": [((0, "slip"),), ring], "a list for a loop": ((), [(1, "move")]),
        }
        for thing in right:
            with self.subTest(thing=str(thing)[:60]):
                self.assertIs(weak_holds(game, plan, 0, thing), True)
        for name, thing in (*wrong.items(), *enumerate(JUNK)):
            with self.subTest(name=name):
                self.assertIs(weak_holds(game, plan, 0, thing), False)

    def test_with_the_worth_any_the_slips_have_no_end(self):
        game = (("keeper", 0, (0,), ((1, 1),)), ("keeper", 1, (0,), ((1, 7),)))
        turn = ((0, "slip"), (1, "move"))
        for answer, things in {
            True: (((), turn), (turn * 200, turn * 99), (((0, "move"),), turn), ((turn[0],), ((1, "slip"),))),
            False: ((turn, ((0, "move"),)), ((), turn[::-1]), ((), turn[:1]), ((), ((0, "move"),))),
        }.items():
            for thing in things:
                with self.subTest(thing=str(thing)[:60]):
                    self.assertIs(weak_holds(game, (0, 0), 0, thing), answer)

    def test_with_the_worth_ever_nothing_holds(self):
        game, plan, _ = TOLD["a ring of slips with an even mark above"]
        chance = random.Random(37)
        for thing in (None, ((), ((0, "move"),)), *[chance_lasso(chance, game, 6) for _ in range(50)]):
            self.assertIs(weak_holds(game, plan, 0, thing), False)

    def test_weak_holds_by_chance(self):
        chance = random.Random(38)
        answers = {True: 0, False: 0}
        for game in small_games(38, 300):
            plan = chance_plan(chance, game)
            told = second.worths(game, plan)
            for _ in range(8):
                place = chance.randrange(len(game))
                self.judge(game, plan, place, told[place], chance_lasso(chance, with_plan(game, plan), 8), answers)
            lasso = weak_lasso(game, plan, place) or chance_lasso(chance, game, 3)
            for thing in chance.sample(list(changed(lasso)), 30):
                self.judge(game, plan, place, told[place], thing, answers)
        self.assertTrue(min(answers.values()) > 200, answers)

    def judge(self, game, plan, place, worth, thing, answers):
        answer = False
        if worth != "ever" and is_lasso(game, thing):
            began = (thing[0] + thing[1])[0][0] == place
            weight = "endless" if worth == "any" else worth
            right = winner(game, thing) == "foe" and repr(lasso_weight(game, thing)) == repr(weight)
            answer = began and right and follows(plan, thing)
        self.assertIs(weak_holds(game, plan, place, thing), answer, (game, plan, place, thing))
        answers[answer] += 1


class ArgumentsTest(ErrorsCase):
    LASSO = ((), ((1, "move"),))

    def test_bad_game_comes_first(self):
        for game in (None, (), [FORK], FORK[0], (("foe", 0, (0,), ((0, 1),)),)):
            self.assert_raised("BadGame", game, is_plan, game, None)
            self.assert_raised("BadGame", game, with_plan, game, None)
            self.assert_raised("BadGame", game, worths, game, None)
            self.assert_raised("BadGame", game, does_follow, game, None, None)
            self.assert_raised("BadGame", game, weak_lasso, game, None, None)
            self.assert_raised("BadGame", game, weak_holds, game, None, None, None)

    def test_bad_plan_comes_next(self):
        for plan in (*BAD_PLANS.values(), *JUNK):
            self.assert_raised("BadPlan", plan, with_plan, FORK, plan)
            self.assert_raised("BadPlan", plan, worths, FORK, plan)
            for rest in (None, 0, self.LASSO):
                self.assert_raised("BadPlan", plan, does_follow, FORK, plan, rest)
                self.assert_raised("BadPlan", plan, weak_lasso, FORK, plan, rest)
                self.assert_raised("BadPlan", plan, weak_holds, FORK, plan, rest, rest)

    def test_bad_place_and_bad_lasso_come_last(self):
        for place in (None, -1, 4, 10 ** 39, True, False, "0", (0,), [0], {}, Stranger()):
            self.assert_raised("BadPlace", place, weak_lasso, FORK, FORK_PLAN, place)
            for thing in (None, self.LASSO):
                self.assert_raised("BadPlace", place, weak_holds, FORK, FORK_PLAN, place, thing)
        for lasso in (*JUNK, ((), ()), ((), ((0, "move"),)), [(), ((1, "move"),)], ((), ((True, "move"),)), FORK_PLAN):
            self.assert_raised("BadLasso", lasso, does_follow, FORK, FORK_PLAN, lasso)

    def test_arguments_by_name(self):
        self.assertIs(is_plan(game=FORK, thing=FORK_PLAN), True)
        self.assertEqual(with_plan(game=FORK, plan=FORK_PLAN), with_plan(FORK, FORK_PLAN))
        self.assertEqual(worths(game=FORK, plan=FORK_PLAN), (2, 2, 2, 0))
        self.assertIs(does_follow(game=FORK, plan=FORK_PLAN, lasso=self.LASSO), True)
        lasso = weak_lasso(game=FORK, plan=FORK_PLAN, place=1)
        self.assertIs(weak_holds(game=FORK, plan=FORK_PLAN, place=1, thing=lasso), True)

    def test_nothing_is_changed(self):
        for thing in ([2, 1, None, 3], [[(0, "slip")], [(1, "move")]]):
            before = copy.deepcopy(thing)
            is_plan(FORK, thing)
            weak_holds(FORK, FORK_PLAN, 0, thing)
            self.assertEqual(thing, before)

    def test_the_same_call_gives_the_same_result(self):
        for place in range(4):
            self.assertEqual(weak_lasso(FORK, FORK_PLAN, place), weak_lasso(FORK, FORK_PLAN, place))


if __name__ == "__main__":
    unittest.main()
