"""[5.1] to [5.3]: games with budgets of slips, and with slips at will."""

import unittest

from howmanyslips.budgets import front, rigged, unrolled, wins_with
from howmanyslips.games import is_game, places
from howmanyslips.numbers import numbers
from tests import second
from tests.helpers import GAME, JUNK, ErrorsCase, Stranger, small_games

FOE = ("foe", 1, (0,), ())
TURN = (("keeper", 0, (0,), ((1, 1),)), ("keeper", 1, (0,), ()))
NO_BUDGETS = (-1, -10 ** 39, True, False, None, "", "0", "any", "ever", (), (0,), [0], {}, {0: 1}, Stranger())
NO_PLACES = (-1, 3, 10 ** 39, True, False, None, "", "0", "any", (), (0,), [0], {}, {0: 1}, Stranger())


def named(rows, names):
    """A game of rows with names as a tuple with numbers for the names."""
    found = []
    for name in sorted(rows, key=names):
        owner, mark, goals = rows[name]
        found.append((owner, mark, tuple(sorted(map(names, goals))), ()))
    return tuple(found)


class UnrolledTest(unittest.TestCase):
    def test_unrolled_games(self):
        cases = (
            ((FOE,), 0, (("foe", 1, (1,), ()), ("foe", 1, (0,), ()))),
            ((FOE,), 1, (("foe", 1, (1,), ()), ("foe", 1, (0,), ()), ("foe", 1, (3,), ()), ("foe", 1, (2,), ()))),
            ((("keeper", 2, (0,), ((0, 1),)),), 1,
             (("foe", 2, (1,), ()), ("keeper", 2, (0,), ()), ("foe", 2, (0, 3), ()), ("keeper", 2, (2,), ()))),
            (TURN, 0, (("foe", 0, (1,), ()), ("keeper", 0, (0,), ()), ("foe", 1, (3,), ()), ("keeper", 1, (0,), ()))),
            (TURN, 1, (
                ("foe", 0, (1,), ()), ("keeper", 0, (0,), ()), ("foe", 1, (3,), ()), ("keeper", 1, (0,), ()),
                ("foe", 0, (2, 5), ()), ("keeper", 0, (4,), ()), ("foe", 1, (7,), ()), ("keeper", 1, (4,), ()))),
        )
        for game, k, told in cases:
            with self.subTest(game=game, k=k):
                self.assertEqual(repr(unrolled(game, k)), repr(told))

    def test_a_slip_takes_its_weight_from_the_budget(self):
        game = (("keeper", 0, (0, 1), ((0, 2), (1, 3))), ("foe", 1, (0, 1), ()))
        made = unrolled(game, 5)
        # The front of a place with a budget is 4 * budget + 2 * place.
        self.assertEqual(made[20], ("foe", 0, (10, 12, 21), ()))
        self.assertEqual(made[12], ("foe", 0, (2, 4, 13), ()))
        self.assertEqual(made[8], ("foe", 0, (0, 9), ()))
        self.assertEqual(made[4], ("foe", 0, (5,), ()))
        self.assertEqual(made[17], ("keeper", 0, (16, 18), ()))
        self.assertEqual([made[18], made[19]], [("foe", 1, (19,), ()), ("foe", 1, (16, 18), ())])

    def test_unrolled_games_by_chance(self):
        for game in small_games(71, 100):
            for k in range(4):
                def number_of(name):
                    place, left, half = name
                    return 2 * (left * len(game) + place) + (half == "back")

                made = unrolled(game, k)
                self.assertEqual(repr(made), repr(named(second.budget_rows(game, k), number_of)), (game, k))
                self.assertIs(is_game(made), True)
                self.assertEqual(places(made), 2 * len(game) * (k + 1))

    def test_rigged_games(self):
        self.assertEqual(rigged((FOE,)), (("foe", 1, (1,), ()), ("foe", 1, (0,), ())))
        self.assertEqual(rigged((("keeper", 2, (0,), ((0, 9),)),)), (("foe", 2, (0, 1), ()), ("keeper", 2, (0,), ())))
        self.assertEqual(rigged(GAME), (
            ("foe", 2, (1, 2), ()), ("keeper", 2, (0,), ()), ("foe", 1, (3, 4), ()), ("keeper", 1, (0, 4), ()),
            ("foe", 1, (5,), ()), ("foe", 1, (4,), ())))
        for game in small_games(72, 100):
            made = rigged(game)
            told = named(second.will_rows(game), lambda name: 2 * name[0] + (name[1] == "back"))
            self.assertEqual(repr(made), repr(told), game)
            self.assertIs(is_game(made), True)

    def test_front(self):
        self.assertEqual([front(GAME, 2, 0, 2), front(GAME, 2, 1, 0), front(GAME, 0, 2, 0)], [12, 2, 4])
        self.assertEqual(front(GAME, 9, 2, 9), 58)
        self.assertEqual(front(GAME, 10 ** 39, 1, 10 ** 39), 6 * 10 ** 39 + 2)


class ToldTest(unittest.TestCase):
    def test_what_unrolled_games_tell(self):
        for game in small_games(73, 100):
            told = [second.rank(number) for number in second.numbers(game)]
            for k in range(4):
                found = numbers(unrolled(game, k))
                for place, number in enumerate(told):
                    for left in range(k + 1):
                        answer = 0 if number <= (0, left) else "ever"
                        self.assertEqual(found[front(game, k, place, left)], answer, (game, k, place, left))

    def test_what_rigged_games_tell(self):
        for game in small_games(74, 200):
            found = numbers(rigged(game))
            for place, number in enumerate(second.numbers(game)):
                self.assertEqual(found[2 * place], "ever" if number == "ever" else 0, (game, place))

    def test_who_wins_with_a_budget(self):
        met = {"keeper": 0, "foe": 0}
        for game in small_games(75, 100):
            for k in range(5):
                kept = second.kept(second.budget_rows(game, k))
                for place in range(len(game)):
                    answer = "keeper" if (place, k, "front") in kept else "foe"
                    self.assertEqual(wins_with(game, place, k), answer, (game, place, k))
                    met[answer] += 1
        self.assertTrue(min(met.values()) > 100, met)

    def test_a_budget_of_just_the_number_is_enough(self):
        self.assertEqual([wins_with(GAME, 0, k) for k in range(5)], ["keeper"] * 3 + ["foe"] * 2)
        self.assertEqual([wins_with(GAME, 1, k) for k in range(4)], ["keeper"] * 2 + ["foe"] * 2)
        self.assertEqual(wins_with(GAME, 2, 0), "foe")

    def test_great_budgets(self):
        self.assertEqual([wins_with(GAME, 0, 10 ** 39), wins_with(TURN, 0, 10 ** 39)], ["foe", "keeper"])


class ArgumentsTest(ErrorsCase):
    def test_bad_game_comes_first(self):
        for game in (*JUNK, list(GAME), GAME[:2], GAME[0]):
            self.assert_raised("BadGame", game, rigged, game)
            for other in (None, 0):
                self.assert_raised("BadGame", game, unrolled, game, other)
                self.assert_raised("BadGame", game, wins_with, game, other, other)
                self.assert_raised("BadGame", game, front, game, other, other, other)

    def test_bad_budgets(self):
        for thing in NO_BUDGETS:
            self.assert_raised("BadBudget", thing, unrolled, GAME, thing)
            self.assert_raised("BadBudget", thing, wins_with, GAME, 2, thing)
            self.assert_raised("BadBudget", thing, front, GAME, 2, 2, thing)
            for place in (0, 3, None):
                for budget in (0, thing, None):
                    self.assert_raised("BadBudget", thing, front, GAME, thing, place, budget)
        for budget in (3, 4, 10 ** 39):
            self.assert_raised("BadBudget", budget, front, GAME, 2, 2, budget)
        self.assert_raised("BadBudget", 1, front, GAME, 0, 0, 1)

    def test_bad_places(self):
        for thing in NO_PLACES:
            for budget in (0, 2, 3, None, -1):
                self.assert_raised("BadPlace", thing, front, GAME, 2, thing, budget)
                self.assert_raised("BadPlace", thing, wins_with, GAME, thing, budget)

    def test_arguments_by_name(self):
        self.assertEqual(unrolled(k=2, game=GAME), unrolled(GAME, 2))
        self.assertEqual(rigged(game=GAME), rigged(GAME))
        self.assertEqual(front(budget=2, place=0, k=3, game=GAME), 12)
        self.assertEqual(wins_with(k=3, place=0, game=GAME), "foe")


if __name__ == "__main__":
    unittest.main()
