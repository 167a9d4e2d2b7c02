"""[6.1] to [6.3]: attacks, best attacks, duels."""

import random
import unittest

from howmanyslips.duels import best_attack, duel, is_attack, is_best_attack
from howmanyslips.numbers import best_plan, judge_game, numbers
from howmanyslips.plays import is_lasso, lasso_weight, winner
from tests import second
from tests.helpers import GAME, JUNK, ErrorsCase, Stranger, chance_plan, changed, small_games
from tests.test_numbers import TOLD
from tests.test_plans import BAD_PLANS, FORK, FORK_PLAN

ATTACK = (1, None, 2, None)

BAD_ATTACKS = {
    "too short": (1, None, 2), "too long": (1, None, 2, None, None), "nothing": (), "a list": [1, None, 2, None],
    "None at a place of the foe": (1, None, None, None), "no move": (1, None, 3, None), "no slip": (2, None, 2, None),
    "the place itself without a slip": (1, 1, 2, None), "a slip where there is none": (1, None, 2, 3),
    "a slip with its weight": ((1, 4), None, 2, None), "a place too far": (1, None, 4, None),
    "a place below 0": (1, None, -2, None), "a bool for a slip": (True, None, 2, None),
    "a bool for a move": (1, None, True, None), "a bool for 0": (1, None, False, None),
    "False for None": (1, False, 2, None), "() for None": (1, (), 2, None), "a string": ("1", None, 2, None),
    "a list for a place": ([1], None, 2, None), "a stranger": (1, None, Stranger(), None), "a plan": FORK_PLAN,
}


class AttacksTest(unittest.TestCase):
    def test_attacks(self):
        for attack in second.attacks(FORK):
            self.assertIs(is_attack(FORK, attack), True)
        self.assertIs(is_attack(FORK, ATTACK), True)
        self.assertEqual([is_attack((("foe", 0, (0,), ()),), (thing,)) for thing in (0, None, False)], [True, False, False])
        slip = (("keeper", 0, (0,), ((0, 1),)),)
        self.assertEqual([is_attack(slip, (thing,)) for thing in (0, None, False)], [True, True, False])

    def test_values_that_are_no_attacks(self):
        for name, thing in (*BAD_ATTACKS.items(), *enumerate(JUNK)):
            with self.subTest(name=name):
                self.assertIs(is_attack(FORK, thing), False)

    def test_each_change_of_an_attack_is_judged_rightly(self):
        answers = {True: 0, False: 0}
        for game in small_games(81, 60):
            every = list(map(repr, second.attacks(game)))
            attack = best_attack(game)
            for thing in (*changed(attack), *[attack[:at] + (other,) + attack[at + 1:]
                                              for at in range(len(game)) for other in (None, 0, 1, 2, 3)]):
                answer = repr(thing) in every
                self.assertIs(is_attack(game, thing), answer, (game, thing))
                answers[answer] += 1
        self.assertTrue(min(answers.values()) > 100, answers)


class BestAttacksTest(unittest.TestCase):
    def test_each_attack_is_judged_rightly(self):
        answers = {True: 0, False: 0}
        for game in small_games(82, 400, many=5):
            told = second.numbers(game)
            for attack in second.attacks(game):
                answer = second.is_best_attack(game, told, attack)
                self.assertIs(is_best_attack(game, attack), answer, (game, attack))
                answers[answer] += 1
        self.assertTrue(min(answers.values()) > 500, answers)

    def test_best_attack(self):
        games = [game for game, _ in TOLD.values()]
        for game in (*games, *small_games(83, 300, many=5), *small_games(84, 60, many=7, mark=6, weight=9)):
            attack = best_attack(game)
            self.assertIs(is_attack(game, attack), True, (game, attack))
            self.assertIs(second.is_best_attack(game, numbers(game), attack), True, (game, attack))
            self.assertIs(is_best_attack(game, attack), True, (game, attack))

    def test_nothing_is_asked_at_ever(self):
        game = (("keeper", 2, (0,), ((0, 1), (1, 1))), ("foe", 1, (0,), ()), ("foe", 1, (2,), ()))
        self.assertEqual(numbers(game), ("ever", "ever", 0))
        for choice in (None, 0, 1):
            self.assertIs(is_best_attack(game, (choice, 0, 2)), True)

    def test_the_choices_of_a_certificate_are_a_best_attack(self):
        chance = random.Random(85)
        for game in small_games(85, 200, many=5):
            _, _, _, assaults = judge_game(game)
            attack = []
            for (owner, _, moves, slips), assault in zip(game, assaults):
                choices = moves if owner == "foe" else (None, *[goal for goal, _ in slips])
                attack.append(chance.choice(choices) if assault is None else assault[0])
            self.assertIs(is_best_attack(game, tuple(attack)), True, (game, attack))

    def test_slips_may_weigh_just_the_number(self):
        # 0 can be made to lose by the slip of 5 at once, or by 1 and 4 one after the other; 6 is too much.
        game = (("keeper", 0, (0,), ((1, 1), (2, 2), (4, 5))), ("keeper", 0, (1,), ((4, 4),)),
                ("keeper", 0, (2,), ((4, 4),)), ("foe", 1, (4, 5), ()), ("foe", 1, (4,), ()), ("foe", 2, (5,), ()))
        self.assertEqual(numbers(game), (5, 4, 4, 0, 0, "ever"))
        for choice, answer in {1: True, 2: False, 4: True, None: False}.items():
            self.assertIs(is_best_attack(game, (choice, 4, 4, 4, 4, 5)), answer)
        self.assertIs(is_best_attack(game, (1, 4, 4, 5, 4, 5)), False)
        self.assertIs(is_best_attack(game, (4, None, 4, 4, 4, 5)), False)

    def test_a_slip_that_is_not_needed(self):
        # All is lost at 0 without slips, and with the number 0 none may weigh anything.
        game = (("keeper", 1, (0,), ((0, 1),)),)
        self.assertEqual([is_best_attack(game, (None,)), is_best_attack(game, (0,))], [True, False])

    def test_at_any_the_foe_has_to_win_every_play(self):
        # The foe wins by slips from 0 to 1 for ever; a slip from 0 to itself, or none, leaves an even ring.
        game = (("keeper", 0, (0,), ((0, 1), (1, 1))), ("keeper", 1, (0, 1), ((0, 1),)), ("keeper", 2, (0,), ((0, 1),)))
        self.assertEqual(numbers(game), ("any", "any", "any"))
        for attack in second.attacks(game):
            self.assertIs(is_best_attack(game, attack), attack[0] == 1, attack)


class DuelsTest(unittest.TestCase):
    def test_duels(self):
        cases = (
            (0, (((0, "slip"),), ((1, "move"),))), (1, ((), ((1, "move"),))), (2, ((), ((2, "move"),))),
            (3, ((), ((3, "move"),))),
        )
        for place, lasso in cases:
            self.assertEqual(repr(duel(FORK, FORK_PLAN, ATTACK, place)), repr(lasso))
        self.assertEqual(duel(FORK, (2, 0, None, 3), (None, None, 1, None), 0),
                         ((), ((0, "move"), (2, "move"), (1, "move"))))
        self.assertEqual(duel(FORK, (2, 0, None, 3), (1, 3, 1, None), 2),
                         (((2, "move"), (1, "slip")), ((3, "move"),)))
        slip = (("keeper", 0, (0,), ((0, 1),)),)
        self.assertEqual([duel(slip, (0,), (None,), 0), duel(slip, (0,), (0,), 0)],
                         [((), ((0, "move"),)), ((), ((0, "slip"),))])

    def test_duels_by_chance(self):
        chance = random.Random(86)
        for game in small_games(86, 300, many=6):
            plan = chance_plan(chance, game)
            attack = tuple(chance.choice(moves if owner == "foe" else (None, *[goal for goal, _ in slips]))
                           for owner, _, moves, slips in game)
            for place in range(len(game)):
                lasso = duel(game, plan, attack, place)
                self.assertIs(is_lasso(game, lasso), True)
                self.follow(game, plan, attack, place, *lasso)

    def follow(self, game, plan, attack, place, stem, loop):
        """Each step is the one that both ask for, and no place comes twice."""
        for at, how in stem + loop:
            self.assertEqual(at, place)
            slips = game[place][0] == "keeper" and attack[place] is not None
            self.assertEqual(how, "slip" if slips else "move")
            place = plan[place] if attack[place] is None else attack[place]
        self.assertEqual(place, loop[0][0])
        met = [at for at, _ in stem + loop]
        self.assertEqual(len(met), len(set(met)))

    def test_best_plans_against_best_attacks(self):
        met = {}
        for game in small_games(87, 200):
            told = second.numbers(game)
            plans = [plan for plan in second.plans(game) if second.worths(game, plan) == told]
            attacks = [attack for attack in second.attacks(game) if second.is_best_attack(game, told, attack)]
            for plan in (best_plan(game), *plans):
                for attack in (best_attack(game), *attacks):
                    for place, number in enumerate(told):
                        self.meet(game, duel(game, plan, attack, place), number)
                        met[number] = met.get(number, 0) + 1
        self.assertTrue(min(met[number] for number in (0, 1, 2, 3, 4, "any", "ever")) > 10, met)

    def meet(self, game, lasso, number):
        self.assertEqual(winner(game, lasso), "keeper" if number == "ever" else "foe", (game, lasso))
        if number != "ever":
            self.assertEqual(lasso_weight(game, lasso), "endless" if number == "any" else number, (game, lasso))


class ArgumentsTest(ErrorsCase):
    def test_errors_come_in_the_order_of_the_parameters(self):
        for game in (*JUNK, list(GAME), GAME[:2], GAME[0]):
            self.assert_raised("BadGame", game, best_attack, game)
            for call in (is_attack, is_best_attack):
                self.assert_raised("BadGame", game, call, game, None)
            self.assert_raised("BadGame", game, duel, game, None, None, None)
        for plan in (*BAD_PLANS.values(), *JUNK):
            self.assert_raised("BadPlan", plan, duel, FORK, plan, None, None)
            self.assert_raised("BadPlan", plan, duel, FORK, plan, ATTACK, 0)
        for attack in (*BAD_ATTACKS.values(), *JUNK):
            self.assert_raised("BadAttack", attack, is_best_attack, FORK, attack)
            self.assert_raised("BadAttack", attack, duel, FORK, FORK_PLAN, attack, None)
            self.assert_raised("BadAttack", attack, duel, FORK, FORK_PLAN, attack, 0)
        for place in (None, -1, 4, 10 ** 39, True, False, "0", (0,), [0], {}, Stranger()):
            self.assert_raised("BadPlace", place, duel, FORK, FORK_PLAN, ATTACK, place)

    def test_arguments_by_name(self):
        self.assertEqual([is_attack(game=FORK, thing=ATTACK), is_best_attack(game=FORK, attack=ATTACK)], [True, False])
        self.assertIs(is_best_attack(attack=best_attack(game=FORK), game=FORK), True)
        self.assertEqual(duel(game=FORK, plan=FORK_PLAN, attack=ATTACK, place=2), ((), ((2, "move"),)))

    def test_nothing_is_changed(self):
        thing = [1, None, 2, None]
        is_attack(FORK, thing)
        self.assertEqual(thing, [1, None, 2, None])


if __name__ == "__main__":
    unittest.main()
