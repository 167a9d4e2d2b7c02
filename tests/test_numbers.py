"""[4.1] to [4.3]: the numbers, best plans, levels."""

import random
import unittest

from howmanyslips.budgets import rigged, unrolled
from howmanyslips.numbers import best_plan, game_holds, is_best_plan, is_less, is_number, judge_game, level, numbers
from howmanyslips.plans import is_plan, worths
from tests import second
from tests.helpers import GAME, JUNK, ErrorsCase, Stranger, TimedCase, small_game, small_games
from tests.test_plans import BAD_PLANS, FORK

LOST, KEPT = ("keeper", 1, (0,), ()), ("keeper", 0, (0,), ())

# Each is a game and its numbers.
TOLD = {
    "one place alone, kept": ((KEPT,), ("ever",)),
    "one place alone, lost": ((LOST,), (0,)),
    "one place of the foe, kept": ((("foe", 2, (0,), ()),), ("ever",)),
    "one place of the foe, lost": ((("foe", 1, (0,), ()),), (0,)),
    "a slip to the place itself, kept": ((("keeper", 0, (0,), ((0, 9),)),), ("ever",)),
    "a slip to the place itself, lost": ((("keeper", 3, (0,), ((0, 9),)),), (0,)),
    "a slip to the place itself alone is lost": (
        (("keeper", 1, (1,), ((0, 9),)), ("keeper", 2, (1,), ())), ("any", "ever")),
    "a slip on the edge of a move": (
        (("keeper", 0, (0, 1), ((1, 2),)), ("keeper", 1, (1,), ())), (2, 0)),
    "a slip on the edge of each move": (
        (("keeper", 0, (0, 1), ((0, 1), (1, 2))), ("keeper", 1, (1,), ())), (2, 0)),
    "no slips": (
        (("keeper", 1, (0, 1), ()), ("foe", 2, (0, 2), ()), ("keeper", 1, (1, 3), ()), ("foe", 4, (2,), ()),
         ("foe", 3, (0, 4), ())), ("ever", "ever", "ever", "ever", 0)),
    "endless slips alone are lost": (
        (("keeper", 0, (0,), ((1, 1),)), ("keeper", 1, (0,), ())), ("any", "any")),
    "endless slips through an even mark": (
        (("keeper", 2, (0,), ((1, 1),)), ("keeper", 1, (0,), ())), ("ever", "ever")),
    "an odd ring in an even one": (
        (("keeper", 2, (1,), ()), ("foe", 1, (0, 2), ()), ("foe", 0, (1,), ())), (0, 0, 0)),
    "an even ring in an odd one": (
        (("foe", 3, (1,), ()), ("keeper", 2, (0, 2), ()), ("keeper", 1, (1,), ())), ("ever", "ever", "ever")),
    "the keeper moves away from slips": (
        (("keeper", 0, (1, 2), ()), ("keeper", 0, (1,), ((3, 5),)), ("keeper", 0, (2,), ((3, 6),)), ("foe", 1, (3,), ())),
        (6, 5, 6, 0)),
    "the foe moves towards slips": (
        (("foe", 0, (1, 2), ()), ("keeper", 0, (1,), ((3, 5),)), ("keeper", 0, (2,), ((3, 6),)), ("foe", 1, (3,), ())),
        (5, 5, 6, 0)),
    "winning and being met by a slip may lie with the keeper": (
        (("keeper", 1, (0, 1), ()), ("keeper", 0, (1,), ((2, 1),)), ("keeper", 1, (2,), ())), (1, 1, 0)),
    "a slip is gone round, endless ones are not": (
        (("keeper", 0, (0, 1), ((3, 4),)), ("keeper", 0, (1,), ((2, 1),)), ("keeper", 1, (1,), ()), ("foe", 1, (3,), ())),
        (4, "any", "any", 0)),
    "the number of the goal and the weight together": (
        (("keeper", 0, (0,), ((1, 1), (2, 5))), ("keeper", 0, (1,), ((2, 4),)), ("foe", 1, (2,), ())), (5, 4, 0)),
    "a heavier slip to a lesser number": (
        (("keeper", 0, (0,), ((1, 1), (2, 4))), ("keeper", 0, (1,), ((2, 4),)), ("foe", 1, (2,), ())), (4, 4, 0)),
    "a slip upwards": (
        (("keeper", 0, (0,), ((1, 3),)), ("foe", 1, (1,), ()), ("keeper", 0, (2,), ((0, 1), (3, 1))), KEPT),
        (3, 0, 4, 3)),
    "the document's": (GAME, (3, 2, 0)),
}

NUMBERS = (0, 1, 2, 9, 10 ** 39, "any", "ever")
NO_NUMBERS = (
    -1, -10 ** 39, True, False, None, "", "0", "1", "Any", "EVER", "any ", "endless", (), (1,), ("any",), [], ["any"],
    {}, {"any": 1}, Stranger(),
)


class NumbersTest(ErrorsCase):
    def test_is_number(self):
        for thing in NUMBERS:
            self.assertIs(is_number(thing), True)
        for thing in NO_NUMBERS:
            with self.subTest(thing=thing):
                self.assertIs(is_number(thing), False)

    def test_is_less(self):
        for one, number in enumerate(NUMBERS):
            for other, another in enumerate(NUMBERS):
                self.assertIs(is_less(number, another), one < other, (number, another))

    def test_is_less_tells_the_first_that_is_none(self):
        for thing in NO_NUMBERS:
            for one, other, told in ((thing, 0, thing), ("ever", thing, thing), (thing, -2, thing), (thing, [], thing)):
                self.assert_raised("BadNumber", told, is_less, one, other)

    def test_numbers(self):
        for name, (game, told) in TOLD.items():
            with self.subTest(name=name):
                self.assertEqual(repr(numbers(game)), repr(told))

    def test_ladders_of_slips(self):
        weights = (9, 1, 4, 2, 7, 3)
        rows = [("keeper", 0, (at,), ((at + 1, weight),)) for at, weight in enumerate(weights)]
        self.assertEqual(numbers((*rows, ("foe", 5, (6,), ()))), (26, 17, 16, 12, 10, 3, 0))
        # A ladder that leads down by the least weights first, and back by moves.
        back = [("keeper", 2, (0,), ((at + 1, weight), (6, 9))) for at, weight in enumerate(weights[:5])]
        self.assertEqual(numbers((*back, rows[5], ("foe", 5, (6,), ()))), (9, 9, 9, 9, 9, 3, 0))
        nines = [("keeper", 0, (at,), ((at + 1, 9),)) for at in range(6)]
        self.assertEqual(numbers((*nines, ("keeper", 1, (6,), ()))), (54, 45, 36, 27, 18, 9, 0))

    def test_greatest_worths_over_all_plans(self):
        met = {}
        for game in small_games(41, 300, many=5):
            told = numbers(game)
            self.assertEqual(repr(told), repr(second.numbers(game)), game)
            for number in told:
                met[number] = met.get(number, 0) + 1
        self.assertTrue(min(met[number] for number in (0, 1, 2, 3, 4, "any", "ever")) > 5, met)

    def test_no_way_of_playing_bears_more(self):
        # A game without slips, in which places tell what is left to the foe, gives all ways of playing their turn.
        for game in small_games(42, 120):
            told = [second.rank(number) for number in numbers(game)]
            for budget in range(5):
                kept = second.kept(second.budget_rows(game, budget))
                self.assertEqual([(place, budget, "front") in kept for place in range(len(game))],
                                 [number > (0, budget) for number in told], (game, budget))
            kept = second.kept(second.will_rows(game))
            self.assertEqual([(place, "front") in kept for place in range(len(game))],
                             [number == (2, 0) for number in told], game)

    def test_without_slips_all_is_lost_or_kept(self):
        for game in small_games(43, 100, many=6, mark=6):
            bare = tuple((owner, mark, moves, ()) for owner, mark, moves, _ in game)
            kept = second.kept({place: row[:3] for place, row in enumerate(bare)})
            self.assertEqual(numbers(bare), tuple("ever" if place in kept else 0 for place in range(len(game))), game)

    def test_numbers_are_bounded(self):
        for game in small_games(44, 300, many=7, mark=6, weight=9):
            heaviest = max([0] + [weight for row in game for _, weight in row[3]])
            whole = [number for number in numbers(game) if isinstance(number, int)]
            self.assertLessEqual(max([0] + whole), heaviest * (len(game) - 1), game)

    def test_great_marks_and_weights(self):
        game = (("keeper", 10 ** 39, (0,), ((1, 10 ** 39),)), ("keeper", 10 ** 39 + 1, (1,), ()))
        self.assertEqual([numbers(game), worths(game, best_plan(game))], [(10 ** 39, 0)] * 2)


class BestPlansTest(unittest.TestCase):
    def test_each_plan_is_judged_rightly(self):
        answers = {True: 0, False: 0}
        for game in small_games(45, 300, many=5):
            told = second.numbers(game)
            for plan in second.plans(game):
                answer = second.worths(game, plan) == told
                self.assertIs(is_best_plan(game, plan), answer, (game, plan))
                answers[answer] += 1
        self.assertTrue(min(answers.values()) > 100, answers)

    def test_best_plan_bears_the_numbers(self):
        games = [game for game, _ in TOLD.values()]
        for game in (*games, *small_games(46, 300, many=5), *small_games(47, 60, many=7, mark=6, weight=9)):
            plan = best_plan(game)
            self.assertIs(is_plan(game, plan), True)
            self.assertEqual(second.worths(game, plan), numbers(game), (game, plan))
            self.assertIs(is_best_plan(game, plan), True)

    def test_moves_that_are_best_need_not_be_best_together(self):
        # 0 and 1 may lead to each other; one of them has to leave for 2.
        game = (("keeper", 1, (1, 2), ()), ("keeper", 1, (0, 2), ()), ("keeper", 0, (2,), ((3, 6),)), ("foe", 1, (3,), ()))
        self.assertEqual(numbers(game), (6, 6, 6, 0))
        for plan, answer in {(1, 2): True, (2, 0): True, (2, 2): True, (1, 0): False}.items():
            self.assertIs(is_best_plan(game, (*plan, 2, None)), answer)
        self.assertIn(best_plan(game)[:2], ((1, 2), (2, 0), (2, 2)))

    def test_a_best_plan_bears_most_at_each_place(self):
        # From 0 the plan makes no difference to the worth, from 1 it does.
        game = (("keeper", 1, (0,), ()), ("keeper", 0, (1, 2), ((0, 2),)), ("keeper", 0, (2,), ((0, 5),)))
        self.assertEqual([is_best_plan(game, (0, 1, 2)), is_best_plan(game, (0, 2, 2))], [True, True])
        game = (("keeper", 1, (0,), ()), ("keeper", 0, (1, 2), ()), ("keeper", 0, (2,), ((0, 5),)))
        self.assertEqual([is_best_plan(game, (0, 1, 2)), is_best_plan(game, (0, 2, 2))], [True, False])

    def test_at_a_place_that_is_lost_each_move_is_best(self):
        game = (("keeper", 1, (0, 1), ((1, 1),)), ("foe", 3, (0, 1), ()))
        self.assertEqual([is_best_plan(game, (move, None)) for move in (0, 1)], [True, True])


class LevelsTest(unittest.TestCase):
    def test_levels(self):
        game, _ = TOLD["the keeper moves away from slips"]
        told = {0: (3,), 5: (1,), 6: (0, 2), 1: (), 7: (), 10 ** 39: (), "any": (), "ever": ()}
        for number, places in told.items():
            self.assertEqual(level(game, number), places)
        self.assertEqual(level(TOLD["endless slips alone are lost"][0], "any"), (0, 1))
        self.assertEqual(level(TOLD["an even ring in an odd one"][0], "ever"), (0, 1, 2))

    def test_levels_by_chance(self):
        for game in small_games(48, 100, many=6):
            told = numbers(game)
            for number in (*range(8), "any", "ever"):
                places = tuple(place for place in range(len(game)) if told[place] == number)
                self.assertEqual(repr(level(game, number)), repr(places))

    def test_the_numbers_come_about_in_levels(self):
        for game in small_games(49, 200, many=5):
            self.assertEqual(numbers(game), by_levels(game), game)


def by_levels(game):
    """The words of [4.3], with a second way of telling who wins without slips."""
    told = [None] * len(game)
    number, slipping = 0, []
    while number is not None:
        rows = {place: row[:3] for place, row in enumerate(game)}
        for place in range(len(game)):
            if told[place] is not None or place in slipping:
                # The foe has what it wants here, so it wins for ever.
                rows[place] = ("foe", 1, [place])
        kept = second.kept(rows)
        for place in range(len(game)):
            if told[place] is None and place not in kept:
                told[place] = number
        sums = [(told[goal] + weight, place) for place, row in enumerate(game) if told[place] is None
                for goal, weight in row[3] if told[goal] is not None]
        number = min(sums)[0] if sums else None
        slipping = [place for whole, place in sums if whole == number]
    kept = second.kept(second.will_rows(game))
    return tuple([("ever" if (place, "front") in kept else "any") if told[place] is None else told[place]
                  for place in range(len(game))])


class ArgumentsTest(ErrorsCase):
    def test_bad_game_comes_first(self):
        for game in (*JUNK, [GAME], list(GAME), GAME[0], (("foe", 0, (0,), ((0, 1),)),), GAME[:2]):
            for call in (numbers, best_plan, judge_game):
                self.assert_raised("BadGame", game, call, game)
            for thing in (None, -1, "any", (0,)):
                for call in (level, is_best_plan, game_holds):
                    self.assert_raised("BadGame", game, call, game, thing)

    def test_bad_plan(self):
        for plan in (*BAD_PLANS.values(), *JUNK):
            self.assert_raised("BadPlan", plan, is_best_plan, FORK, plan)

    def test_bad_number(self):
        for thing in NO_NUMBERS:
            self.assert_raised("BadNumber", thing, level, GAME, thing)

    def test_arguments_by_name(self):
        self.assertEqual([is_number(thing=0), is_less(one=0, other="any"), is_less(other=0, one="any")], [True, True, False])
        self.assertEqual([numbers(game=GAME), level(game=GAME, number=2)], [(3, 2, 0), (1,)])
        plan = best_plan(game=GAME)
        self.assertEqual([plan, is_best_plan(game=GAME, plan=plan)], [(0, 0, None), True])
        self.assertIs(game_holds(game=GAME, thing=judge_game(game=GAME)), True)


class TimeTest(TimedCase):
    def test_games_of_seven_places(self):
        chance = random.Random(50)
        full = [tuple(("keeper" if at % 3 else "foe", (at * 5 + turn) % 7, tuple(range(7)),
                       ((at, 9), ((at + turn) % 7, 1))[:at % 3] if at % 3 < 2 else ((0, 3), (6, 2)))
                      for at in range(7)) for turn in range(7)]
        for game in (*full, *[small_game(chance, 7, 6, 9) for _ in range(60)]):
            plan = self.assert_soon(best_plan, game)
            self.assert_soon(is_best_plan, game, plan)
            self.assert_soon(game_holds, game, self.assert_soon(judge_game, game))

    def test_games_of_32_places(self):
        chance = random.Random(51)
        slips = ((0, 1), (1, 2), (2, 3), (3, 1))
        full = tuple(("keeper", mark, (0, 1, 2, 3), slips[:many]) for mark, many in ((4, 4), (3, 3), (2, 3), (1, 0)))
        for game in (full, *[small_game(chance, 4, 4, 3) for _ in range(20)]):
            for made in (unrolled(game, 3), rigged(game)):
                told = self.assert_soon(numbers, made)
                plan = self.assert_soon(best_plan, made)
                self.assertEqual(self.assert_soon(worths, made, plan), told)
                self.assertEqual(self.assert_soon(level, made, 0), tuple(at for at, number in enumerate(told) if number == 0))


if __name__ == "__main__":
    unittest.main()
