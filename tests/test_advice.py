"""[8.1] to [8.3]: best and safe moves, the story and the blame of a path."""

import copy
import random
import unittest

from howmanyslips.advice import best_moves, blame, safe_moves, story
from howmanyslips.numbers import best_plan, numbers
from howmanyslips.plans import with_plan
from howmanyslips.plays import path_weight
from tests import second
from tests.helpers import GAME, JUNK, ErrorsCase, Stranger, changed, chance_plan, chance_walk, small_games

# Place 0 can move to 1, which has a number, to 2, which has a greater one, to itself, and to 3, which is lost.
WAYS = (
    ("keeper", 1, (0, 1, 2, 3), ()), ("keeper", 0, (1,), ((3, 4),)), ("keeper", 0, (1, 2), ((3, 5),)),
    ("foe", 1, (3,), ()), ("keeper", 2, (0, 4), ()),
)


def keepers(game):
    """The places of the keeper."""
    return [place for place, row in enumerate(game) if row[0] == "keeper"]


class MovesTest(unittest.TestCase):
    def test_moves(self):
        self.assertEqual(numbers(WAYS), (5, 4, 5, 0, "ever"))
        self.assertEqual([best_moves(WAYS, place) for place in (0, 1, 2, 4)], [(2,), (1,), (2,), (4,)])
        # To stay at 0 is safe, but whoever does it for ever loses.
        self.assertEqual([safe_moves(WAYS, place) for place in (0, 1, 2, 4)], [(0, 2), (1,), (2,), (4,)])

    def test_one_place_alone(self):
        for mark in (0, 1):
            game = (("keeper", mark, (0,), ()),)
            self.assertEqual([best_moves(game, 0), safe_moves(game, 0)], [(0,), (0,)])

    def test_at_a_place_that_is_lost_all_moves_are_best(self):
        game = (("keeper", 1, (0, 1, 2), ((1, 2),)), ("foe", 1, (0, 1), ()), ("keeper", 3, (0, 2), ()))
        self.assertEqual(numbers(game), (0, 0, 0))
        self.assertEqual([best_moves(game, 0), best_moves(game, 2)], [(0, 1, 2), (0, 2)])
        self.assertEqual([safe_moves(game, 0), safe_moves(game, 2)], [(0, 1, 2), (0, 2)])

    def test_safe_moves_that_are_no_best_ones(self):
        # All three places are "ever"; 0 can stay, and then it loses, or go on to 1.
        game = (("keeper", 1, (0, 1), ()), ("keeper", 2, (0, 1), ()), ("foe", 4, (0, 1), ()))
        self.assertEqual(numbers(game), ("ever",) * 3)
        self.assertEqual([best_moves(game, 0), safe_moves(game, 0)], [(1,), (0, 1)])
        # Both 0 and 1 can go to each other, but not both of them for ever.
        game = (("keeper", 1, (1, 2), ()), ("keeper", 1, (0, 2), ()), ("keeper", 0, (2,), ((3, 6),)), ("foe", 1, (3,), ()))
        self.assertEqual([best_moves(game, place) for place in (0, 1)], [(1, 2), (0, 2)])

    def test_a_move_along_which_the_number_rises(self):
        # From 0 the slip to 3 weighs 2, whatever the keeper does; so a move to 1, which has 4, is a best one.
        game = (("keeper", 0, (0, 1), ((3, 2),)), ("keeper", 0, (1,), ((3, 4),)), ("foe", 0, (2,), ()), ("foe", 1, (3,), ()))
        self.assertEqual(numbers(game), (2, 4, "ever", 0))
        self.assertEqual([best_moves(game, 0), safe_moves(game, 0)], [(0, 1), (0, 1)])

    def test_any_and_ever(self):
        game = (
            ("keeper", 0, (0, 1, 2), ()), ("keeper", 0, (1,), ((3, 1),)), ("foe", 2, (2,), ()), ("keeper", 1, (1,), ()),
            ("keeper", 0, (1, 4), ((3, 7),)))
        self.assertEqual(numbers(game), ("ever", "any", "ever", "any", "any"))
        self.assertEqual([best_moves(game, 0), best_moves(game, 4)], [(0, 2), (1, 4)])
        self.assertEqual([safe_moves(game, 0), safe_moves(game, 4)], [(0, 2), (1, 4)])

    def test_best_moves_are_those_of_all_best_plans(self):
        left = 0
        for game in small_games(801, 300, many=5):
            told = second.numbers(game)
            best = [plan for plan in second.plans(game) if second.worths(game, plan) == told]
            for place in keepers(game):
                moves = tuple(sorted({plan[place] for plan in best}))
                self.assertEqual(repr(best_moves(game, place)), repr(moves), (game, place))
                left += len(game[place][2]) - len(moves)
        self.assertGreater(left, 50)

    def test_safe_moves_by_chance(self):
        beside = 0
        for game in small_games(802, 300, many=5):
            told = second.numbers(game)
            for place in keepers(game):
                moves = tuple(move for move in game[place][2] if second.rank(told[move]) >= second.rank(told[place]))
                self.assertEqual(repr(safe_moves(game, place)), repr(moves), (game, place))
                best = best_moves(game, place)
                self.assertTrue(best and set(best) <= set(moves), (game, place))
                self.assertTrue(all(move in best for move in moves if told[move] != told[place]), (game, place))
                if told[place] == 0:
                    self.assertEqual(best, game[place][2])
                beside += len(moves) - len(best)
        self.assertGreater(beside, 10)


class StoriesTest(unittest.TestCase):
    def test_stories(self):
        cases = (
            (((), 3), (0,), ()), (((), 4), ("ever",), ()),
            ((((4, "move"), (0, "move"), (2, "slip")), 3), ("ever", 5, 5, 0), (0,)),
            ((((0, "move"), (1, "slip"), (3, "move")), 3), (5, 4, 0, 0), (0,)),
            ((((0, "move"), (0, "move"), (0, "move")), 3), (5, 5, 5, 0), (2,)),
            ((((4, "move"), (4, "move"), (0, "move"), (2, "move"), (1, "move")), 1), ("ever", "ever", 5, 5, 4, 4), (1, 3)),
            ((((4, "move"),) * 59 + ((4, "move"),), 0), ("ever",) * 60 + (5,), (59,)),
        )
        for path, told, faults in cases:
            with self.subTest(path=str(path)[:60]):
                self.assertEqual(repr(story(WAYS, path)), repr(told))
                self.assertEqual(repr(blame(WAYS, path)), repr(faults))

    def test_slips_and_moves_of_the_foe_are_no_faults(self):
        game = (("keeper", 0, (0,), ((1, 3), (2, 1))), ("foe", 0, (0, 2), ()), ("foe", 1, (2,), ()))
        self.assertEqual(numbers(game), (1, 0, 0))
        self.assertEqual(blame(game, (((0, "slip"), (1, "move")), 2)), ())
        game = (("foe", 0, (0, 1), ()), ("keeper", 1, (1,), ()), ("keeper", 0, (1, 2), ((1, 1),)))
        self.assertEqual(numbers(game), (0, 0, 1))
        # The same edge by a move and by a slip.
        self.assertEqual([blame(game, (((2, how),), 1)) for how in ("move", "slip")], [(0,), ()])

    def test_stories_by_chance(self):
        chance = random.Random(803)
        faults = 0
        for game in small_games(803, 200, many=5):
            told = second.numbers(game)
            for _ in range(4):
                path = chance_walk(chance, game, chance.randrange(len(game)), chance.choice((0, 1, 5, 60)))
                met = [place for place, _ in path[0]] + [path[1]]
                self.assertEqual(repr(story(game, path)), repr(tuple(told[place] for place in met)), (game, path))
                wrong = []
                for at, ((place, how), goal) in enumerate(zip(path[0], met[1:], strict=True)):
                    fell = second.rank(told[goal]) < second.rank(told[place])
                    if how == "move" and game[place][0] == "keeper" and fell:
                        wrong.append(at)
                self.assertEqual(repr(blame(game, path)), repr(tuple(wrong)), (game, path))
                faults += len(wrong)
        self.assertGreater(faults, 60)

    def test_what_a_path_without_blame_keeps(self):
        chance = random.Random(804)
        for game in small_games(804, 300, many=5):
            alone = with_plan(game, best_plan(game))
            path = chance_walk(chance, alone, chance.randrange(len(game)), 30)
            self.assertEqual(blame(game, path), (), (game, path))
            self.keeps(game, path)
            other = chance_walk(chance, with_plan(game, chance_plan(chance, game)), chance.randrange(len(game)), 3)
            if not blame(game, other):
                self.keeps(game, other)

    def keeps(self, game, path):
        """What [8.2] says of numbers."""
        told = story(game, path)
        goals = [step[0] for step in path[0][1:]] + [path[1]]
        for (place, how), goal, before, after in zip(path[0], goals, told, told[1:], strict=False):
            if how == "move":
                # Along moves of the foe, too: they lead to no lesser number.
                self.assertLessEqual(second.rank(before), second.rank(after), (game, path))
            elif before in ("any", "ever"):
                self.assertIn(after, ("any", "ever")[before == "ever":], (game, path))
            elif after not in ("any", "ever"):
                self.assertGreaterEqual(after, before - dict(game[place][3])[goal], (game, path))
        if told[0] not in ("any", "ever") and told[-1] not in ("any", "ever"):
            self.assertGreaterEqual(told[-1], told[0] - path_weight(game, path), (game, path))


class ArgumentsTest(ErrorsCase):
    CALLS = (best_moves, safe_moves, story, blame)

    def test_bad_game_comes_first(self):
        for game in (*JUNK, list(WAYS), WAYS[0], WAYS[:3], (("foe", 0, (0,), ((0, 1),)),)):
            for call in self.CALLS:
                for thing in (None, 0, -1, ((), 0)):
                    self.assert_raised("BadGame", game, call, game, thing)

    def test_bad_place(self):
        for place in (None, -1, 5, 10 ** 39, True, False, "0", (0,), [0], {}, Stranger(), ((), 0)):
            for call in (best_moves, safe_moves):
                self.assert_raised("BadPlace", place, call, WAYS, place)

    def test_a_place_of_the_foe_is_a_bad_one(self):
        for call in (best_moves, safe_moves):
            self.assert_raised("BadPlace", 3, call, WAYS, 3)
            self.assert_raised("BadPlace", 2, call, GAME, 2)

    def test_bad_path(self):
        path = (((0, "move"), (2, "slip")), 3)
        for call in (story, blame):
            for thing in (*JUNK, (((0, "slip"),), 1), (((0, "move"),), 4), [((0, "move"),), 1], ([(0, "move")], 1), path[0]):
                if thing != ((), 0):
                    self.assert_raised("BadPath", thing, call, WAYS, thing)

    def test_each_change_of_a_path_is_judged_rightly(self):
        path = (((0, "move"), (2, "slip")), 3)
        edges = {(place, how, goal) for place, row in enumerate(WAYS)
                 for how, goals in (("move", row[2]), ("slip", [goal for goal, _ in row[3]])) for goal in goals}
        for thing in changed(path):
            for call in (story, blame):
                if self.is_right(edges, thing):
                    call(WAYS, thing)
                else:
                    self.assert_raised("BadPath", thing, call, WAYS, thing)

    def is_right(self, edges, thing):
        if type(thing) is not tuple or len(thing) != 2 or type(thing[0]) is not tuple or type(thing[1]) is not int:
            return False
        steps, here = thing
        if not 0 <= here < len(WAYS) or any(type(step) is not tuple or len(step) != 2 for step in steps):
            return False
        if any(type(place) is not int or type(how) is not str for place, how in steps):
            return False
        goals = [step[0] for step in steps[1:]] + [here]
        return all((*step, goal) in edges for step, goal in zip(steps, goals))

    def test_arguments_by_name(self):
        self.assertEqual([best_moves(place=0, game=WAYS), safe_moves(place=0, game=WAYS)], [(2,), (0, 2)])
        path = (((0, "move"),), 3)
        self.assertEqual([story(path=path, game=WAYS), blame(path=path, game=WAYS)], [(5, 0), (0,)])

    def test_nothing_is_changed(self):
        path = [[[0, "move"]], 3]
        before = copy.deepcopy(path)
        self.assert_raised("BadPath", path, story, WAYS, path)
        self.assert_raised("BadPath", path, blame, WAYS, path)
        self.assertEqual(path, before)


if __name__ == "__main__":
    unittest.main()
