"""[7.1] to [7.3]: controllers, their products, their numbers and weak plays."""

import copy
import random
import unittest

from howmanyslips.controllers import (
    controller_holds, controller_resilience, is_controller, is_weak_play, judge_controller, product, weak_play)
from howmanyslips.games import is_game
from howmanyslips.numbers import best_plan, game_holds, judge_game, numbers
from howmanyslips.plans import is_plan, worths
from howmanyslips.plays import is_lasso, lasso_weight, winner
from tests import second
from tests.helpers import (
    JUNK, ErrorsCase, Stranger, TimedCase, chance_lasso, chance_plan, changed, small_game, small_games)
from tests.test_certificates import tweaked

# Place 0 is the keeper's with two moves and a slip to 3, which is lost; 1 is kept, and 2 is the foe's.
PARK = (
    ("keeper", 0, (1, 2), ((3, 2),)), ("keeper", 2, (0, 1), ((0, 1), (2, 4))), ("foe", 1, (0, 1), ()),
    ("foe", 3, (3,), ()),
)
ONE = (((1, 1, None, None), (0, 0, 0, 0)),)
THREE = (
    ((1, 1, None, None), (1, 0, 2, 0)),
    ((2, 0, None, None), (1, 2, 0, 0)),
    ((2, 1, None, None), (2, 1, 0, 2)),
)

BAD_CONTROLLERS = {
    "no rooms": (), "a room alone": ONE[0], "a list": list(ONE), "a list for a room": (list(ONE[0]),),
    "a list for moves": ((list(ONE[0][0]), ONE[0][1]),), "a list for nexts": ((ONE[0][0], list(ONE[0][1])),),
    "nexts alone": ((ONE[0][1],),), "moves alone": ((ONE[0][0],),), "three parts": ((*ONE[0], ()),),
    "nexts before moves": ((ONE[0][1], ONE[0][0]),), "a room that is none": (*ONE, None), "an empty room": (*ONE, ()),
    "a move that is none": (((3, 1, None, None), (0, 0, 0, 0)),), "a move to itself": (((0, 1, None, None), (0,) * 4),),
    "the place of a slip": (((1, 2, None, None), (0, 0, 0, 0)),),
    "a place too far": (((1, 4, None, None), (0, 0, 0, 0)),),
    "None at a place of the keeper": (((None, 1, None, None), (0, 0, 0, 0)),),
    "a move at a place of the foe": (((1, 1, 0, None), (0, 0, 0, 0)),),
    "the only move at a place of the foe": (((1, 1, None, 3), (0, 0, 0, 0)),),
    "a bool for a move": (((True, 1, None, None), (0, 0, 0, 0)),),
    "a bool for the move 0": (((1, False, None, None), (0, 0, 0, 0)),),
    "too few moves": (((1, 1, None), (0, 0, 0, 0)),), "too many moves": (((1, 1, None, None, None), (0, 0, 0, 0)),),
    "a room that there is not": (((1, 1, None, None), (0, 0, 1, 0)),),
    "a room that there is not, of three": (*THREE[:2], ((1, 1, None, None), (0, 3, 0, 0))),
    "a room below 0": (((1, 1, None, None), (0, 0, -1, 0)),), "a bool for a room": (((1, 1, None, None), (0, 0, False, 0)),),
    "True for a room": (*ONE, ((1, 1, None, None), (0, True, 0, 0))), "None for a room": (((1, 1, None, None), (0, None, 0, 0)),),
    "too few nexts": (((1, 1, None, None), (0, 0, 0)),), "too many nexts": (((1, 1, None, None), (0, 0, 0, 0, 0)),),
    "a room left out": (THREE[0], THREE[2]), "a plan": ONE[0][0], "rooms in rooms": (ONE,),
    "a stranger for a room": (((1, 1, None, None), (0, 0, Stranger(), 0)),), "a string": "0", "a dict": {0: ONE[0]},
}


def chance_controller(chance, game, rooms):
    """Any controller with so many rooms."""
    return tuple((chance_plan(chance, game), tuple(chance.randrange(rooms) for _ in game)) for _ in range(rooms))


def cases(seed, times):
    """Small games, each with a controller, the product having at most 12 places and 12 slips."""
    chance = random.Random(seed)
    found = []
    for game in small_games(seed, times):
        rooms = chance.randint(1, 3)
        while rooms > 1 and rooms * sum(len(row[3]) for row in game) > 12:
            rooms -= 1
        found.append((game, chance_controller(chance, game, rooms)))
    return found


def is_right(game, thing):
    """The words of [7.1] once more."""
    if type(thing) is not tuple or not thing:
        return False
    for room in thing:
        if type(room) is not tuple or len(room) != 2 or any(type(part) is not tuple for part in room):
            return False
        moves, nexts = room
        if len(moves) != len(game) or len(nexts) != len(game):
            return False
        for move, (owner, _, goals, _) in zip(moves, game):
            if owner == "foe" and move is not None or owner == "keeper" and (type(move) is not int or move not in goals):
                return False
        if any(type(number) is not int or not 0 <= number < len(thing) for number in nexts):
            return False
    return True


def led(game, controller, state):
    """The ways on from a place in a room, as triples ((goal, room), how, weight)."""
    place, room = state
    moves, nexts = controller[room]
    owner, _, goals, slips = game[place]
    ways = [((goal, nexts[goal]), "move", 0) for goal in (goals if owner == "foe" else [moves[place]])]
    return ways + [((goal, nexts[goal]), "slip", weight) for goal, weight in slips]


def told_by_hand(game, controller):
    """The numbers of a controller, by all rings of places in rooms, and the least weights of ways to them."""
    states = [(place, room) for place in range(len(game)) for room in range(len(controller))]
    found = [[(states.index(goal), how, weight) for goal, how, weight in led(game, controller, state)]
             for state in states]
    flat = [game[place] for place, _ in states]
    lost = second.rings_of(flat, found, 1)
    quiet = {at for ring in lost for at, _ in ring if "slip" not in [how for _, how in ring]}
    loud = {at for ring in lost for at, _ in ring}
    far = second.distances(found)
    told = []
    for place in range(len(game)):
        row = far[states.index((place, 0))]
        weights = [row[at] for at in quiet if row[at] is not None]
        told.append(min(weights) if weights else "any" if any(row[at] is not None for at in loud) else "ever")
    return tuple(told)


class ControllersTest(unittest.TestCase):
    def test_controllers(self):
        for controller in (ONE, THREE, ONE * 3, ONE * 40):
            self.assertIs(is_controller(PARK, controller), True)
        self.assertIs(is_controller((("foe", 1, (0,), ()),), (((None,), (0,)),)), True)
        self.assertIs(is_controller((("keeper", 0, (0,), ()),), (((0,), (0,)),)), True)

    def test_values_that_are_no_controllers(self):
        for name, thing in (*BAD_CONTROLLERS.items(), *enumerate(JUNK)):
            with self.subTest(name=name):
                self.assertIs(is_controller(PARK, thing), False)

    def test_each_change_of_a_controller_is_judged_rightly(self):
        answers = {True: 0, False: 0}
        for game, controller in ((PARK, ONE), *cases(701, 30)):
            things = list(changed(controller))
            for at, (moves, nexts) in enumerate(controller):
                for place in range(len(game)):
                    for other in (None, 0, 1, 2, 3, True, False):
                        for room in ((moves[:place] + (other,) + moves[place + 1:], nexts),
                                     (moves, nexts[:place] + (other,) + nexts[place + 1:])):
                            things.append(controller[:at] + (room,) + controller[at + 1:])
            for thing in things:
                answer = is_right(game, thing)
                self.assertIs(is_controller(game, thing), answer, (game, thing))
                answers[answer] += 1
        self.assertTrue(min(answers.values()) > 100, answers)


class ProductsTest(unittest.TestCase):
    def test_one_room(self):
        self.assertEqual(product(PARK, ONE), (
            ("keeper", 0, (1,), ((3, 2),)), ("keeper", 2, (1,), ((0, 1), (2, 4))), ("foe", 1, (0, 1), ()),
            ("foe", 3, (3,), ())))

    def test_three_rooms(self):
        # In the first room 0 leads to room 1, 2 to room 2, and 1 and 3 back to room 0.
        whole = product(PARK, THREE)
        self.assertEqual(whole[:4], (
            ("keeper", 0, (1,), ((3, 2),)), ("keeper", 2, (1,), ((4, 1), (10, 4))), ("foe", 1, (1, 4), ()),
            ("foe", 3, (3,), ())))
        # In the second one 0 leads to room 1, 1 to room 2, 2 and 3 to room 0.
        self.assertEqual(whole[4:8], (
            ("keeper", 0, (2,), ((3, 2),)), ("keeper", 2, (4,), ((2, 4), (4, 1))), ("foe", 1, (4, 9), ()),
            ("foe", 3, (3,), ())))
        # In the third one 0 and 3 lead to room 2, 1 to room 1, 2 to room 0.
        self.assertEqual(whole[8:], (
            ("keeper", 0, (2,), ((11, 2),)), ("keeper", 2, (5,), ((2, 4), (8, 1))), ("foe", 1, (5, 8), ()),
            ("foe", 3, (11,), ())))

    def test_one_place_alone(self):
        self.assertEqual(product((("keeper", 1, (0,), ((0, 3),)),), (((0,), (1,)), ((0,), (0,)))),
                         (("keeper", 1, (1,), ((1, 3),)), ("keeper", 1, (0,), ((0, 3),))))
        self.assertEqual(product((("foe", 2, (0,), ()),), (((None,), (0,)),)), (("foe", 2, (0,), ()),))

    def test_the_ways_on_are_those_with_the_controller(self):
        for game, controller in cases(702, 200):
            whole = product(game, controller)
            many = len(game)
            self.assertIs(is_game(whole), True, (game, controller))
            self.assertEqual(len(whole), many * len(controller))
            for at, (owner, mark, moves, slips) in enumerate(whole):
                room, place = divmod(at, many)
                self.assertEqual((owner, mark), game[place][:2])
                ways = [((goal % many, goal // many), "move", 0) for goal in moves]
                ways += [((goal % many, goal // many), "slip", weight) for goal, weight in slips]
                self.assertEqual(sorted(ways), sorted(led(game, controller, (place, room))), (game, controller))


class NumbersTest(unittest.TestCase):
    def test_numbers_by_a_second_way(self):
        met = {}
        for game, controller in cases(703, 300):
            told = controller_resilience(game, controller)
            self.assertEqual(repr(told), repr(told_by_hand(game, controller)), (game, controller))
            for number in told:
                met[number] = met.get(number, 0) + 1
        self.assertTrue(min(met[number] for number in (0, 1, 2, 3, "any", "ever")) > 20, met)

    def test_no_number_is_greater_than_that_of_the_place(self):
        rises = 0
        for game, controller in cases(704, 300):
            for number, least in zip(numbers(game), controller_resilience(game, controller), strict=True):
                self.assertLessEqual(second.rank(least), second.rank(number), (game, controller))
                rises += least != number
        self.assertGreater(rises, 50)

    def test_one_room_has_the_worths_of_its_plan(self):
        for game in small_games(705, 150, many=6, mark=6, weight=9):
            plan = chance_plan(random.Random(705), game)
            room = (plan, (0,) * len(game))
            self.assertEqual(repr(controller_resilience(game, (room,))), repr(second.worths(game, plan)), game)
            best = (best_plan(game), (0,) * len(game))
            self.assertEqual(controller_resilience(game, (best,)), numbers(game), game)

    def test_three_rooms(self):
        # 0 leaves the ring to the slip when it is met for the third time.
        game = (("keeper", 0, (0, 1), ()), ("keeper", 0, (0,), ((2, 5),)), ("foe", 1, (2,), ()))
        rooms = (((0, 0, None), (1, 0, 0)), ((0, 0, None), (2, 1, 0)), ((1, 0, None), (2, 2, 0)))
        self.assertEqual(controller_resilience(game, rooms), (5, 5, 0))
        self.assertEqual(controller_resilience(game, rooms[:2] + (((0, 0, None), (2, 2, 0)),)), ("ever", 5, 0))

    def test_rooms_that_are_not_met_count_nothing(self):
        bad = ((2, 0, None, None), (1, 1, 1, 1))
        self.assertEqual(controller_resilience(PARK, (*ONE, bad)), controller_resilience(PARK, ONE))

    def test_without_slips(self):
        # The one room moves to and fro, which the keeper wins, the other one stays, which it loses at 0.
        game = (("keeper", 1, (0, 1), ()), ("keeper", 2, (0, 1), ()))
        for nexts, told in {(0, 0): ("ever", "ever"), (0, 1): (0, 0), (1, 0): (0, 0), (1, 1): (0, 0)}.items():
            rooms = (((1, 0), nexts), ((0, 0), (1, 1)))
            self.assertEqual(controller_resilience(game, rooms), told_by_hand(game, rooms))
            self.assertEqual(controller_resilience(game, rooms), told, nexts)

    def test_great_weights(self):
        game = (("keeper", 0, (0,), ((1, 10 ** 39),)), ("keeper", 1, (1,), ()))
        self.assertEqual(controller_resilience(game, (((0, 1), (0, 0)),)), (10 ** 39, 0))


class CertificatesTest(unittest.TestCase):
    def test_certificates(self):
        for game, controller in cases(706, 100):
            paper = judge_controller(game, controller)
            whole = product(game, controller)
            self.assertEqual(second.broken(whole, paper), set(), (game, controller))
            self.assertIs(controller_holds(game, controller, paper), True)
            self.assertEqual(paper[1][:len(game)], controller_resilience(game, controller))

    def test_certificates_are_of_the_product(self):
        self.assertIs(controller_holds(PARK, THREE, judge_game(product(PARK, THREE))), True)
        for thing in (judge_game(PARK), judge_controller(PARK, ONE), judge_controller(PARK, THREE[::-1]), None, THREE):
            self.assertIs(controller_holds(PARK, THREE, thing), False)

    def test_each_change_is_judged_rightly(self):
        chance = random.Random(707)
        answers = {True: 0, False: 0}
        for game, controller in cases(707, 150):
            whole = product(game, controller)
            paper = judge_controller(game, controller)
            things = [tweaked(chance, whole, paper) for _ in range(6)]
            if len(whole) < 4:
                things += list(changed(paper))
            for thing in things:
                answer = not second.broken(whole, thing)
                self.assertIs(controller_holds(game, controller, thing), answer, (game, controller, thing))
                answers[answer] += 1
        self.assertTrue(min(answers.values()) > 30, answers)

    def test_any_value_is_answered(self):
        for thing in JUNK:
            self.assertIs(controller_holds(PARK, ONE, thing), False)


class WeakPlaysTest(unittest.TestCase):
    def is_weak(self, game, controller, v, thing):
        """The words of [7.3] once more."""
        whole, number = product(game, controller), controller_resilience(game, controller)[v]
        if number == "ever" or not is_lasso(whole, thing):
            return False
        stem, loop = thing
        if (stem + loop)[0][0] != v or winner(whole, thing) != "foe":
            return False
        if number == "any":
            self.assertIn("slip", [how for _, how in loop])
            return True
        return "slip" not in [how for _, how in loop] and lasso_weight(whole, thing) == number

    def test_weak_plays(self):
        met = {}
        for game, controller in cases(708, 300):
            whole = product(game, controller)
            for v, number in enumerate(told_by_hand(game, controller)):
                thing = weak_play(game, controller, v)
                met[number] = met.get(number, 0) + 1
                if number == "ever":
                    self.assertIsNone(thing)
                    continue
                self.assertTrue(self.is_weak(game, controller, v, thing), (game, controller, v, thing))
                self.assertIs(is_weak_play(game, controller, v, thing), True)
                self.assertLessEqual(len(thing[0]), len(whole))
                self.assertLessEqual(len(thing[1]), 2 * len(whole))
                self.assertEqual("slip" in [how for _, how in thing[1]], number == "any")
        self.assertTrue(min(met[number] for number in (0, 1, 2, 3, "any", "ever")) > 5, met)

    def test_longer_ones_too(self):
        game = (("keeper", 0, (0,), ((1, 2),)), ("keeper", 1, (1,), ()))
        rooms = (((0, 1), (1, 0)), ((0, 1), (0, 1)))
        turn = ((0, "move"), (2, "move"))
        for answer, things in {
            True: (
                (((0, "slip"),), ((1, "move"),)), (turn * 25 + ((0, "slip"),), ((1, "move"),) * 60),
                (((0, "move"), (2, "slip")), ((3, "move"),)), (((0, "move"), (2, "slip"), (3, "move")), ((3, "move"),)),
                (turn * 300 + ((0, "slip"),), ((1, "move"),) * 700)),
            False: (
                ((), ((0, "move"),)), ((), turn), (((2, "slip"),), ((3, "move"),)), (((0, "slip"),), ((3, "move"),)),
                (((0, "slip"),), ()), ((), ((1, "move"),)), (((0, "move"), (0, "slip")), ((1, "move"),)),
                [((0, "slip"),), ((1, "move"),)], ([(0, "slip")], ((1, "move"),)), (((False, "slip"),), ((True, "move"),))),
        }.items():
            for thing in things:
                with self.subTest(thing=str(thing)[:70]):
                    self.assertIs(is_weak_play(game, rooms, 0, thing), answer)

    def test_heavier_ones_are_none(self):
        game = (("keeper", 0, (0,), ((0, 1), (1, 2), (2, 3))), ("keeper", 1, (1,), ()), ("keeper", 3, (2,), ()))
        room = (((0, 1, 2), (0, 0, 0)),)
        self.assertIs(is_weak_play(game, room, 0, (((0, "slip"),), ((1, "move"),))), True)
        self.assertIs(is_weak_play(game, room, 0, (((0, "slip"),), ((2, "move"),))), False)
        self.assertIs(is_weak_play(game, room, 0, (((0, "slip"), (0, "slip")), ((1, "move"),))), False)
        self.assertIs(is_weak_play(game, room, 0, (((0, "move"), (0, "slip")), ((1, "move"),))), True)

    def test_slips_for_ever(self):
        game = (("keeper", 0, (0,), ((1, 1),)), ("keeper", 1, (0,), ()))
        room = (((0, 0), (0, 0)),)
        self.assertEqual(controller_resilience(game, room), ("any", "any"))
        turn = ((0, "slip"), (1, "move"))
        for answer, things in {
            True: (((), turn), (turn * 30, turn), (((0, "move"),), turn + ((0, "move"),))),
            False: ((turn, ((0, "move"),)), ((), turn[::-1]), ((), ()), None),
        }.items():
            for thing in things:
                self.assertIs(is_weak_play(game, room, 0, thing), answer, thing)

    def test_weak_plays_by_chance(self):
        chance = random.Random(709)
        answers = {True: 0, False: 0}
        for game, controller in cases(709, 200):
            whole, v = product(game, controller), chance.randrange(len(game))
            things = [chance_lasso(chance, whole, 8) for _ in range(6)]
            things += chance.sample(list(changed(weak_play(game, controller, v) or things[0])), 30)
            for thing in things:
                answer = self.is_weak(game, controller, v, thing)
                self.assertIs(is_weak_play(game, controller, v, thing), answer, (game, controller, v, thing))
                answers[answer] += 1
        self.assertTrue(min(answers.values()) > 50, answers)


class ArgumentsTest(ErrorsCase):
    CALLS = {
        controller_resilience: 0, product: 0, judge_controller: 0, controller_holds: 1, weak_play: 1, is_weak_play: 2,
    }

    def test_bad_game_comes_first(self):
        for game in (*JUNK, list(PARK), PARK[0], PARK[:3], (("foe", 0, (0,), ((0, 1),)),)):
            self.assert_raised("BadGame", game, is_controller, game, None)
            for call, more in self.CALLS.items():
                self.assert_raised("BadGame", game, call, game, (), *[-1] * more)

    def test_bad_controller_comes_next(self):
        for controller in (*BAD_CONTROLLERS.values(), *JUNK):
            for call, more in self.CALLS.items():
                self.assert_raised("BadController", controller, call, PARK, controller, *[-1] * more)

    def test_bad_place_comes_last(self):
        for v in (None, -1, 4, 7, 12, 10 ** 39, True, False, "0", (0,), [0], {}, "any", Stranger()):
            self.assert_raised("BadPlace", v, weak_play, PARK, THREE, v)
            for thing in (None, ((), ((0, "move"),))):
                self.assert_raised("BadPlace", v, is_weak_play, PARK, THREE, v, thing)

    def test_arguments_by_name(self):
        self.assertIs(is_controller(thing=ONE, game=PARK), True)
        self.assertEqual(product(controller=THREE, game=PARK), product(PARK, THREE))
        self.assertEqual(controller_resilience(controller=ONE, game=PARK), worths(PARK, ONE[0][0]))
        paper = judge_controller(controller=THREE, game=PARK)
        self.assertIs(controller_holds(thing=paper, controller=THREE, game=PARK), True)
        thing = weak_play(v=0, controller=THREE, game=PARK)
        self.assertIs(is_weak_play(thing=thing, v=0, controller=THREE, game=PARK), True)

    def test_nothing_is_changed(self):
        for thing in ([list(map(list, ONE[0]))], [[(0, "slip")], [(3, "move")]], list(judge_controller(PARK, ONE))):
            before = copy.deepcopy(thing)
            is_controller(PARK, thing)
            controller_holds(PARK, ONE, thing)
            is_weak_play(PARK, ONE, 0, thing)
            self.assertEqual(thing, before)
        self.assertEqual(judge_controller(PARK, THREE), judge_controller(PARK, THREE))
        self.assertEqual(weak_play(PARK, THREE, 0), weak_play(PARK, THREE, 0))


class TimeTest(TimedCase):
    def test_products_of_twelve_places(self):
        chance = random.Random(710)
        for turn in range(40):
            game = small_game(chance, 4, 6, 9, slips=4)
            whole = product(game, chance_controller(chance, game, 12 // len(game) if turn % 2 else 3))
            told = self.assert_soon(numbers, whole)
            plan = self.assert_soon(best_plan, whole)
            self.assertIs(is_plan(whole, plan), True)
            self.assertEqual(self.assert_soon(worths, whole, plan), told)
            self.assertIs(self.assert_soon(game_holds, whole, self.assert_soon(judge_game, whole)), True)


if __name__ == "__main__":
    unittest.main()
