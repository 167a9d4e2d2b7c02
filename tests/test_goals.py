"""[10.1] and [10.2]: games with other goals."""

import copy
import random
import unittest

from howmanyslips.games import is_game
from howmanyslips.goals import again_game, reach_game, safe_game, seldom_game
from howmanyslips.numbers import numbers
from howmanyslips.plays import winner
from tests import second
from tests.helpers import JUNK, ErrorsCase, Stranger, changed, chance_lasso, small_games

GAME = (
    ("keeper", 5, (0, 1), ((1, 4), (2, 2))), ("foe", 4, (0, 1), ()), ("keeper", 0, (1, 2), ((0, 3),)),
    ("foe", 3, (3,), ()),
)
CALLS = (safe_game, reach_game, again_game, seldom_game)

NO_PLACES = {
    "in reverse": (2, 1), "twice": (1, 1), "beyond": (0, 4), "below 0": (-1, 0), "a bool": (True,), "a bool for 0": (False, 1),
    "a list": [0, 1], "an empty list": [], "a place alone": 1, "a list for a place": ([0],), "a tuple for a place": ((0,),),
    "None": None, "None for a place": (None,), "a string": "01", "strings": ("0",), "a dict": {0: 1}, "no dict": {},
    "a stranger": (Stranger(),), "great": (10 ** 39,), "all and one more": (0, 1, 2, 3, 4), "three, the last twice": (0, 1, 1),
}


def chosen(chance, game):
    """An ascending tuple of places, now and then none or all of them."""
    many = chance.choice((0, 1, 1, 2, len(game)))
    return tuple(sorted(chance.sample(range(len(game)), min(many, len(game)))))


def least_weights(game, bad):
    """What slips cost the foe that leads to a bad place, "ever" where it cannot: by sets that grow, budget by budget."""
    many = len(game)
    most = sum(weight for row in game for _, weight in row[3])
    caught = []
    for budget in range(most + 1):
        # caught[budget] holds the places from which the foe leads to a bad one with this budget.
        here = set(bad) | (caught[-1] if caught else set())
        grown = True
        while grown:
            grown = False
            for place in set(range(many)) - here:
                owner, _, moves, slips = game[place]
                met = [goal in here for goal in moves]
                slid = [goal in caught[budget - weight] for goal, weight in slips if weight <= budget]
                if any(slid) or (any(met) if owner == "foe" else all(met)):
                    here.add(place)
                    grown = True
        caught.append(here)
    return tuple(next((budget for budget in range(most + 1) if place in caught[budget]), "ever") for place in range(many))


class GamesTest(unittest.TestCase):
    def test_some_places(self):
        self.assertEqual(safe_game(GAME, (1, 3)), (
            ("keeper", 0, (0, 1), ((1, 4), (2, 2))), ("foe", 1, (1,), ()), ("keeper", 0, (1, 2), ((0, 3),)),
            ("foe", 1, (3,), ())))
        self.assertEqual(reach_game(GAME, (0,)), (
            ("keeper", 2, (0,), ()), ("foe", 1, (0, 1), ()), ("keeper", 1, (1, 2), ((0, 3),)), ("foe", 1, (3,), ())))
        self.assertEqual(again_game(GAME, (0,)), (
            ("keeper", 2, (0, 1), ((1, 4), (2, 2))), ("foe", 1, (0, 1), ()), ("keeper", 1, (1, 2), ((0, 3),)),
            ("foe", 1, (3,), ())))
        self.assertEqual(seldom_game(GAME, (0, 3)), (
            ("keeper", 1, (0, 1), ((1, 4), (2, 2))), ("foe", 0, (0, 1), ()), ("keeper", 0, (1, 2), ((0, 3),)),
            ("foe", 1, (3,), ())))

    def test_no_places(self):
        for call, mark in ((safe_game, 0), (reach_game, 1), (again_game, 1), (seldom_game, 0)):
            self.assertEqual(call(GAME, ()), tuple((owner, mark, *edges) for owner, _, *edges in GAME))
            self.assertEqual(set(numbers(call(GAME, ()))), {"ever"} if mark == 0 else {0})

    def test_all_places(self):
        everything = (0, 1, 2, 3)
        for call, mark in ((again_game, 2), (seldom_game, 1)):
            self.assertEqual(call(GAME, everything), tuple((owner, mark, *edges) for owner, _, *edges in GAME))
        for call, mark in ((safe_game, 1), (reach_game, 2)):
            self.assertEqual(call(GAME, everything), tuple((row[0], mark, (at,), ()) for at, row in enumerate(GAME)))
        for call in CALLS:
            self.assertEqual(set(numbers(call(GAME, everything))), {0 if call in (safe_game, seldom_game) else "ever"})

    def test_one_place_alone(self):
        game = (("keeper", 3, (0,), ((0, 2),)),)
        self.assertEqual([call(game, ()) for call in CALLS],
                         [(("keeper", mark, (0,), ((0, 2),)),) for mark in (0, 1, 1, 0)])
        self.assertEqual([call(game, (0,)) for call in CALLS],
                         [(("keeper", 1, (0,), ()),), (("keeper", 2, (0,), ()),), (("keeper", 2, (0,), ((0, 2),)),),
                          (("keeper", 1, (0,), ((0, 2),)),)])

    def test_who_wins_plays(self):
        chance = random.Random(1001)
        won = {}
        for game in small_games(1001, 200, many=5):
            there = chosen(chance, game)
            for call in CALLS:
                made = call(game, there)
                self.assertIs(is_game(made), True)
                self.assertEqual([row[0] for row in made], [row[0] for row in game])
                lasso = chance_lasso(chance, made, 6)
                whole = [place for place, _ in lasso[0] + lasso[1]]
                loop = [place for place, _ in lasso[1]]
                told = {safe_game: not set(whole) & set(there), reach_game: bool(set(whole) & set(there)),
                        again_game: bool(set(loop) & set(there)), seldom_game: not set(loop) & set(there)}[call]
                self.assertEqual(winner(made, lasso), "keeper" if told else "foe", (game, there, lasso))
                won[call, told] = won.get((call, told), 0) + 1
        self.assertEqual(len(won), 8)
        self.assertTrue(min(won.values()) > 10, won)


class NumbersTest(unittest.TestCase):
    def test_numbers_of_safe_games(self):
        chance = random.Random(1002)
        met = {}
        for game in small_games(1002, 300, many=5):
            bad = chosen(chance, game)
            told = numbers(safe_game(game, bad))
            self.assertEqual(repr(told), repr(least_weights(game, bad)), (game, bad))
            for number in told:
                met[number] = met.get(number, 0) + 1
        self.assertNotIn("any", met)
        self.assertTrue(min(met[number] for number in (0, 1, 2, 3, "ever")) > 20, met)

    def test_safe_and_seldom_reach_and_again(self):
        chance = random.Random(1003)
        unlike = {"bad": 0, "aims": 0}
        for game in small_games(1003, 300, many=5):
            there = chosen(chance, game)
            for name, low, high in (("bad", safe_game(game, there), seldom_game(game, there)),
                                    ("aims", again_game(game, there), reach_game(game, there))):
                for least, most in zip(numbers(low), numbers(high), strict=True):
                    self.assertLessEqual(second.rank(least), second.rank(most), (game, there))
                    unlike[name] += least != most
        self.assertTrue(min(unlike.values()) > 20, unlike)


class ArgumentsTest(ErrorsCase):
    def test_bad_game_comes_first(self):
        for game in (*JUNK, list(GAME), GAME[0], GAME[:2], (("foe", 0, (0,), ((0, 1),)),)):
            for call in CALLS:
                for thing in (None, (), (0,), (9,)):
                    self.assert_raised("BadGame", game, call, game, thing)

    def test_bad_places(self):
        for name, thing in NO_PLACES.items():
            for call in CALLS:
                with self.subTest(name=name, call=call.__name__):
                    self.assert_raised("BadPlaces", thing, call, GAME, thing)

    def test_each_change_of_places_is_judged_rightly(self):
        every = [repr(tuple(at for at in range(4) if turn >> at & 1)) for turn in range(16)]
        answers = {True: 0, False: 0}
        for there in ((), (2,), (0, 3), (0, 1, 2), (0, 1, 2, 3)):
            for thing in changed(there):
                answer = repr(thing) in every
                for call in CALLS:
                    if answer:
                        call(GAME, thing)
                    else:
                        self.assert_raised("BadPlaces", thing, call, GAME, thing)
                answers[answer] += 1
        self.assertTrue(min(answers.values()) > 20, answers)

    def test_arguments_by_name(self):
        self.assertEqual(safe_game(bad=(1,), game=GAME), safe_game(GAME, (1,)))
        self.assertEqual(reach_game(aims=(1,), game=GAME), reach_game(GAME, (1,)))
        self.assertEqual(again_game(aims=(1,), game=GAME), again_game(GAME, (1,)))
        self.assertEqual(seldom_game(bad=(1,), game=GAME), seldom_game(GAME, (1,)))

    def test_nothing_is_changed(self):
        thing = [0, [1]]
        before = copy.deepcopy(thing)
        for call in CALLS:
            self.assert_raised("BadPlaces", thing, call, GAME, thing)
        self.assertEqual(thing, before)


if __name__ == "__main__":
    unittest.main()
