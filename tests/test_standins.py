"""[12.1] to [12.4]: chains, grafting, stand-ins."""

import copy
import itertools
import random
import unittest

from howmanyslips.games import is_game
from howmanyslips.numbers import best_plan, game_holds, judge_game, numbers
from howmanyslips.plans import worths
from howmanyslips.standins import chain, grafted, standin_for
from tests import second
from tests.helpers import JUNK, ErrorsCase, Stranger, TimedCase, changed, small_game, small_games
from tests.test_goals import NO_PLACES
from tests.test_numbers import NO_NUMBERS, NUMBERS

# Place 3 is lost, place 2 is kept; 1 slips to 3 for 2, so it has 2; 0 has a slip on the edge of each of its moves.
GAME = (
    ("keeper", 0, (1, 2), ((1, 3), (2, 5))), ("keeper", 0, (1,), ((3, 2),)), ("foe", 2, (2,), ()),
    ("keeper", 1, (3,), ((0, 1), (1, 1))), ("foe", 1, (0, 4), ()),
)


def led(edges, heads):
    """Moves or slips, ascending, with the goals that heads tell."""
    return tuple(sorted((heads[edge[0]], edge[1]) if isinstance(edge, tuple) else heads[edge] for edge in edges))


def graft_by_hand(game, v, number):
    """The words of [12.2]."""
    heads = {place: place for place in range(len(game))} | {v: len(game)}
    behind = {at: len(game) + at for at in range(2)}
    return tuple((owner, mark, led(moves, heads), led(slips, heads)) for owner, mark, moves, slips in game) + tuple(
        (owner, mark, led(moves, behind), led(slips, behind)) for owner, mark, moves, slips in chain(number))


def standin_by_hand(game, inside):
    """The words of [12.3], with the numbers told in a second way."""
    told = second.numbers(game)
    heads = {place: at for at, place in enumerate(inside)}
    rows = []
    outside = {goal for place in inside for goal in (*game[place][2], *[u for u, _ in game[place][3]])} - set(inside)
    for place in sorted(outside):
        first = len(inside) + len(rows)
        heads[place] = first
        for owner, mark, moves, slips in chain(told[place]):
            rows.append((owner, mark, tuple(first + goal for goal in moves), tuple((first + u, w) for u, w in slips)))
    return (*[(*game[place][:2], led(game[place][2], heads), led(game[place][3], heads)) for place in inside], *rows)


class ChainsTest(ErrorsCase):
    def test_chains(self):
        cases = {
            "ever": (("keeper", 0, (0,), ()),), 0: (("keeper", 1, (0,), ()),),
            "any": (("keeper", 0, (0,), ((1, 1),)), ("keeper", 1, (0,), ())),
            1: (("keeper", 0, (0,), ((1, 1),)), ("keeper", 1, (1,), ())),
            36: (("keeper", 0, (0,), ((1, 36),)), ("keeper", 1, (1,), ())),
            10 ** 39: (("keeper", 0, (0,), ((1, 10 ** 39),)), ("keeper", 1, (1,), ())),
        }
        for number, game in cases.items():
            with self.subTest(number=number):
                self.assertEqual(repr(chain(number)), repr(game))

    def test_place_0_has_the_number(self):
        for number in (*NUMBERS, *range(37)):
            game = chain(number)
            self.assertIs(is_game(game), True)
            self.assertEqual(numbers(game)[0], number)
            self.assertEqual(second.numbers(game)[0], number)

    def test_bad_numbers(self):
        for number in NO_NUMBERS:
            self.assert_raised("BadNumber", number, chain, number)


class GraftsTest(unittest.TestCase):
    def test_edges_lead_to_the_chain_instead(self):
        self.assertEqual(grafted(GAME, 1, 7), (
            ("keeper", 0, (2, 5), ((2, 5), (5, 3))), ("keeper", 0, (5,), ((3, 2),)), ("foe", 2, (2,), ()),
            ("keeper", 1, (3,), ((0, 1), (5, 1))), ("foe", 1, (0, 4), ()),
            ("keeper", 0, (5,), ((6, 7),)), ("keeper", 1, (6,), ())))

    def test_a_place_with_itself(self):
        self.assertEqual(grafted((("keeper", 1, (0,), ((0, 3),)),), 0, 0), (
            ("keeper", 1, (1,), ((1, 3),)), ("keeper", 1, (1,), ())))
        self.assertEqual(grafted((("foe", 1, (0,), ()),), 0, "ever"), (("foe", 1, (1,), ()), ("keeper", 0, (1,), ())))
        self.assertEqual(grafted((("foe", 1, (0,), ()),), 0, "any"), (
            ("foe", 1, (1,), ()), ("keeper", 0, (1,), ((2, 1),)), ("keeper", 1, (1,), ())))

    def test_a_place_to_which_nothing_leads(self):
        game = (("foe", 0, (1,), ()), ("foe", 0, (1,), ()))
        self.assertEqual(grafted(game, 0, 4), (*game, ("keeper", 0, (2,), ((3, 4),)), ("keeper", 1, (3,), ())))

    def test_grafted_by_hand(self):
        for game in small_games(1201, 100, many=5):
            for v, number in itertools.product(range(len(game)), (0, 1, 5, 36, "any", "ever")):
                made = grafted(game, v, number)
                self.assertIs(is_game(made), True, (game, v, number))
                self.assertEqual(repr(made), repr(graft_by_hand(game, v, number)))

    def test_with_the_number_of_the_place_all_stays_the_same(self):
        met = {}
        for game in small_games(1202, 200, many=5, weight=9):
            told = numbers(game)
            for v, number in enumerate(told):
                self.assertEqual(numbers(grafted(game, v, number))[:len(game)], told, (game, v))
                met[number] = met.get(number, 0) + 1
        self.assertTrue(min(met[number] for number in (0, 1, 2, 9, "any", "ever")) > 2, met)

    def test_each_two_numbers_are_told_apart(self):
        game = (("keeper", 0, (1,), ()), ("keeper", 0, (1,), ()))
        every = (*range(37), 10 ** 39, "any", "ever")
        self.assertEqual([numbers(grafted(game, 1, number))[0] for number in every], list(every))


class StandinsTest(unittest.TestCase):
    def test_standins(self):
        self.assertEqual(numbers(GAME), (5, 2, "ever", 0, 0))
        self.assertEqual(standin_for(GAME, (1, 3)), (
            # 3 slips to 0, too, which has 5.
            ("keeper", 0, (0,), ((1, 2),)), ("keeper", 1, (1,), ((0, 1), (2, 1))),
            ("keeper", 0, (2,), ((3, 5),)), ("keeper", 1, (3,), ())))
        self.assertEqual(standin_for(GAME, (0,)), (
            ("keeper", 0, (1, 3), ((1, 3), (3, 5))), ("keeper", 0, (1,), ((2, 2),)), ("keeper", 1, (2,), ()),
            ("keeper", 0, (3,), ())))
        self.assertEqual(standin_for(GAME, (4,)), (("foe", 1, (0, 1), ()), ("keeper", 0, (1,), ((2, 5),)), ("keeper", 1, (2,), ())))
        self.assertEqual(standin_for(GAME, (2,)), (("foe", 2, (0,), ()),))

    def test_a_place_outside_between(self):
        # 1 stands outside, 0 and 2 inside: places inside come first, so edges change their order.
        game = (("keeper", 0, (1, 2), ((1, 2), (2, 2))), ("keeper", 1, (1,), ()), ("foe", 2, (0, 1), ()))
        self.assertEqual(standin_for(game, (0, 2)), (
            ("keeper", 0, (1, 2), ((1, 2), (2, 2))), ("foe", 2, (0, 2), ()), ("keeper", 1, (2,), ())))
        game = (game[1], *game[1:])
        self.assertEqual(standin_for(game, (2,)), (("foe", 2, (1, 2), ()), ("keeper", 1, (1,), ()), ("keeper", 1, (2,), ())))

    def test_each_number_has_its_chain(self):
        game = (("foe", 0, (0, 1, 2, 3, 4), ()), ("keeper", 2, (1,), ((1, 3),)), ("keeper", 0, (2,), ((3, 1),)),
                ("keeper", 1, (2,), ()), ("keeper", 1, (4,), ()))
        self.assertEqual(numbers(game), (0, "ever", "any", "any", 0))
        self.assertEqual(standin_for(game, (0,)), (
            ("foe", 0, (0, 1, 2, 4, 6), ()), ("keeper", 0, (1,), ()), ("keeper", 0, (2,), ((3, 1),)), ("keeper", 1, (2,), ()),
            ("keeper", 0, (4,), ((5, 1),)), ("keeper", 1, (4,), ()), ("keeper", 1, (6,), ())))

    def test_all_places(self):
        for game in (GAME, *small_games(1203, 40, many=5)):
            self.assertEqual(standin_for(game, tuple(range(len(game)))), game)

    def test_one_place_alone(self):
        game = (("keeper", 3, (0,), ((0, 9),)),)
        self.assertEqual(standin_for(game, (0,)), game)

    def test_standins_by_hand(self):
        for game in small_games(1204, 100, many=5):
            for many in range(1, len(game) + 1):
                for inside in itertools.combinations(range(len(game)), many):
                    self.assertEqual(repr(standin_for(game, inside)), repr(standin_by_hand(game, inside)), (game, inside))

    def test_places_of_inside_have_the_same_numbers(self):
        fewer = 0
        for game in small_games(1205, 150, many=5, weight=9):
            told = numbers(game)
            for many in range(1, len(game) + 1):
                for inside in itertools.combinations(range(len(game)), many):
                    made = standin_for(game, inside)
                    self.assertIs(is_game(made), True)
                    self.assertEqual(numbers(made)[:many], tuple(told[place] for place in inside), (game, inside))
                    fewer += len(made) < len(game)
        self.assertGreater(fewer, 100)


class ArgumentsTest(ErrorsCase):
    def test_bad_game_comes_first(self):
        for game in (*JUNK, list(GAME), GAME[0], GAME[:3], (("foe", 0, (0,), ((0, 1),)),)):
            for thing in (None, -1, ()):
                self.assert_raised("BadGame", game, grafted, game, thing, thing)
                self.assert_raised("BadGame", game, standin_for, game, thing)

    def test_bad_place_then_bad_number(self):
        for v in (None, -1, 5, 10 ** 39, True, False, "0", (0,), [0], {}, "any", Stranger()):
            for number in (0, "ever", None, -1):
                self.assert_raised("BadPlace", v, grafted, GAME, v, number)
        for number in NO_NUMBERS:
            self.assert_raised("BadNumber", number, grafted, GAME, 4, number)

    def test_bad_places(self):
        for name, inside in {**NO_PLACES, "no places": (), "beyond": (0, 5), "one more": (0, 1, 2, 3, 4, 5)}.items():
            if inside != (0, 1, 2, 3, 4):
                with self.subTest(name=name):
                    self.assert_raised("BadPlaces", inside, standin_for, GAME, inside)

    def test_each_change_of_places_is_judged_rightly(self):
        every = [repr(tuple(at for at in range(5) if turn >> at & 1)) for turn in range(1, 32)]
        answers = {True: 0, False: 0}
        for there in ((2,), (0, 3), (1, 2, 4), (0, 1, 2, 3, 4)):
            for thing in changed(there):
                answer = repr(thing) in every
                if answer:
                    self.assertEqual(standin_for(GAME, thing), standin_by_hand(GAME, thing))
                else:
                    self.assert_raised("BadPlaces", thing, standin_for, GAME, thing)
                answers[answer] += 1
        self.assertTrue(min(answers.values()) > 20, answers)

    def test_arguments_by_name(self):
        self.assertEqual(chain(number=4), chain(4))
        self.assertEqual(grafted(number=4, v=1, game=GAME), grafted(GAME, 1, 4))
        self.assertEqual(standin_for(inside=(0, 2), game=GAME), standin_for(GAME, (0, 2)))

    def test_nothing_is_changed(self):
        inside = [0, [1]]
        before = copy.deepcopy(inside)
        self.assert_raised("BadPlaces", inside, standin_for, GAME, inside)
        self.assertEqual(inside, before)


class TimeTest(TimedCase):
    def test_games_of_nine_places(self):
        chance = random.Random(1206)
        for _ in range(60):
            game = small_game(chance, 5, 6, 9)
            made = [grafted(game, chance.randrange(len(game)), number) for number in (36, "any", 0)]
            made.append(standin_for(game, tuple(sorted(chance.sample(range(len(game)), (len(game) + 1) // 2)))))
            for other in made:
                told, plan = self.assert_soon(numbers, other), self.assert_soon(best_plan, other)
                self.assertEqual(self.assert_soon(worths, other, plan), told)
                self.assertIs(self.assert_soon(game_holds, other, self.assert_soon(judge_game, other)), True)


if __name__ == "__main__":
    unittest.main()
