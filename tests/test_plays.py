"""[2.1] to [2.3]: plays, lassos and paths."""

import random
import unittest

from howmanyslips.plays import is_lasso, is_path, lasso_weight, path_weight, winner
from tests.helpers import GAME, JUNK, Stranger, changed, chance_game, chance_lasso, chance_walk, raised

# Place 0 has the edge to 1 both as a move and as a slip, and a slip to itself.
EDGES = (("keeper", 0, (1,), ((0, 3), (1, 5))), ("foe", 4, (0, 1, 2), ()), ("keeper", 3, (0, 2), ((1, 7),)))
BIG = (("keeper", 0, (1,), ((1, 9),)), ("foe", 1, (0,), ()))

GOOD_LASSOS = {
    "an empty stem": ((), ((1, "move"),)),
    "a loop with slips": ((), ((0, "slip"),)),
    "a slip of the stem into the loop": (((0, "slip"),), ((1, "move"),)),
    "a move of the stem into the loop": (((0, "move"),), ((1, "move"),)),
    "the stem meets the loop before": (((1, "move"), (1, "move")), ((1, "move"), (2, "slip"))),
    "a loop of several steps": ((), ((0, "move"), (1, "move"), (2, "slip"), (1, "move"))),
}

BAD_LASSOS = {
    "no loop": (((0, "move"),), ()),
    "nothing": ((), ()),
    "loop alone": (((1, "move"),),),
    "three parts": ((), ((1, "move"),), ()),
    "a list": [(), ((1, "move"),)],
    "a stem that is a list": ([], ((1, "move"),)),
    "a loop that is a list": ((), [(1, "move")]),
    "a step that is a list": ((), ([1, "move"],)),
    "a step of the stem that is a list": (([0, "move"],), ((1, "move"),)),
    "a place that is a bool": ((), ((True, "move"),)),
    "a place of the stem that is a bool": (((False, "move"),), ((1, "move"),)),
    "a place too far": ((), ((3, "move"),)),
    "a place below 0": ((), ((-1, "move"),)),
    "a place of the stem below 0": (((-3, "move"),), ((1, "move"),)),
    "a place that is a string": ((), (("1", "move"),)),
    "another word": ((), ((1, "moves"),)),
    "no word": ((), ((1, ""),)),
    "a word that is None": ((), ((1, None),)),
    "a word that is a list": ((), ((1, ["move"]),)),
    "a word that is a stranger": ((), ((1, Stranger()),)),
    "a step of one part": ((), ((1,),)),
    "a step of three parts": ((), ((1, "move", 1),)),
    "a step that is a place": ((), (1,)),
    "a slip of the foe": ((), ((1, "slip"),)),
    "a loop that does not close": ((), ((0, "move"),)),
    "a slip that does not close": ((), ((0, "move"), (1, "move"), (2, "slip"))),
    "a stem that does not lead to the loop": (((0, "move"),), ((2, "move"),)),
    "a gap in the stem": (((0, "move"), (2, "slip")), ((1, "move"),)),
    "no slip along a move": (((2, "slip"), (1, "move"), (2, "slip")), ((2, "move"),)),
    "no move along a slip": (((0, "move"),), ((0, "slip"),)),
    "a stem that leads to the end of the loop alone": (((0, "move"),), ((0, "move"), (1, "move"))),
}

GOOD_PATHS = {
    "no steps": ((), 2),
    "a move": (((0, "move"),), 1),
    "a slip on the edge of a move": (((0, "slip"),), 1),
    "a slip to the place itself": (((0, "slip"),), 0),
    "several steps": (((0, "slip"), (0, "slip"), (1, "move"), (2, "slip"), (1, "move")), 0),
}

BAD_PATHS = {
    "no place": (((0, "move"),),),
    "three parts": ((), 0, 0),
    "here before the steps": (0, ()),
    "a list": [(), 0],
    "steps that are a list": ([], 0),
    "a step that is a list": (([0, "move"],), 1),
    "here is a bool": ((), False),
    "here is a bool behind a step": (((0, "move"),), True),
    "here is too far": ((), 3),
    "here is below 0": ((), -1),
    "here is None": ((), None),
    "here is a tuple": ((), (0,)),
    "a place that is a bool": (((False, "move"),), 1),
    "a place too far": (((3, "move"),), 1),
    "a place below 0": (((-3, "move"),), 1),
    "another word": (((0, "Move"),), 1),
    "a word that is a list": (((0, ["move"]),), 1),
    "a step of one part": (((0,),), 1),
    "a step that is a place": ((0,), 1),
    "a slip of the foe": (((1, "slip"),), 1),
    "a move that is none": (((0, "move"),), 0),
    "a slip that is none": (((2, "slip"),), 2),
    "a gap": (((0, "move"), (2, "move")), 2),
    "does not lead here": (((0, "move"), (1, "move"), (2, "move")), 1),
}

NO_GAMES = ((), [], None, list(EDGES), EDGES + (0,), (("foe", 0, (False,), ()),), "foe 0 to 0")


def edges(game):
    """Each edge as it is written, so that a bool is no integer, and its weight."""
    found = {}
    for place, (_, _, moves, slips) in enumerate(game):
        found.update({repr((place, "move", goal)): 0 for goal in moves})
        found.update({repr((place, "slip", goal)): weight for goal, weight in slips})
    return found


def weights(game, steps, here):
    """The weight of each step, None if a thing is no step, or does not lead to the next one."""
    here_at = list(steps) + [(here, None)]
    found = edges(game)
    for at, step in enumerate(steps):
        if type(step) is not tuple or len(step) != 2 or type(here_at[at + 1]) is not tuple or not here_at[at + 1]:
            return None
        if repr((*step, here_at[at + 1][0])) not in found:
            return None
    return [found[repr((*step, here_at[at + 1][0]))] for at, step in enumerate(steps)]


def looks_like_lasso(game, thing):
    if type(thing) is not tuple or len(thing) != 2 or [type(part) for part in thing] != [tuple, tuple]:
        return False
    stem, loop = thing
    if not loop or type(loop[0]) is not tuple or not loop[0]:
        return False
    return weights(game, stem + loop, loop[0][0]) is not None


def looks_like_path(game, thing):
    if type(thing) is not tuple or len(thing) != 2 or type(thing[0]) is not tuple or type(thing[1]) is not int:
        return False
    return 0 <= thing[1] < len(game) and weights(game, *thing) is not None


class LassosTest(unittest.TestCase):
    def test_lassos(self):
        for name, lasso in GOOD_LASSOS.items():
            with self.subTest(name=name):
                self.assertIs(is_lasso(EDGES, lasso), True)

    def test_values_that_are_no_lassos(self):
        for thing in (*BAD_LASSOS.values(), *JUNK, *GOOD_PATHS.values()):
            with self.subTest(thing=thing):
                self.assertIs(is_lasso(EDGES, thing), False)
                for call in (winner, lasso_weight):
                    name, attributes = raised(call, EDGES, thing)
                    self.assertEqual((name, list(attributes)), ("BadLasso", ["thing"]))
                    self.assertIs(attributes["thing"], thing)

    def test_each_change_of_a_lasso_is_judged_rightly(self):
        chance = random.Random(6)
        answers = {True: 0, False: 0}
        for _ in range(60):
            game = chance_game(chance)
            lasso = chance_lasso(chance, game, 5)
            self.assertIs(is_lasso(game, lasso), True)
            for thing in changed(lasso):
                if is_lasso(game, thing) is not looks_like_lasso(game, thing):
                    self.fail(f"{thing!r} is misjudged in {game!r}")
                answers[is_lasso(game, thing)] += 1
        self.assertTrue(min(answers.values()) > 100, answers)

    def test_the_greatest_mark_of_the_loop_alone_decides(self):
        cases = (
            (EDGES, ((), ((1, "move"),)), "keeper"),
            (EDGES, (((1, "move"),), ((2, "move"),)), "foe"),
            (EDGES, ((), ((2, "move"),)), "foe"),
            (EDGES, ((), ((2, "slip"), (1, "move"))), "keeper"),
            (EDGES, (((2, "move"),), ((0, "slip"),)), "keeper"),
            (EDGES, (((0, "move"), (1, "move")), ((2, "move"), (2, "move"))), "foe"),
            (BIG, ((), ((0, "move"), (1, "move"))), "foe"),
            ((("foe", 10 ** 39, (0,), ()),), ((), ((0, "move"),)), "keeper"),
            ((("foe", 10 ** 39 + 1, (0,), ()),), ((), ((0, "move"),)), "foe"),
        )
        for game, lasso, name in cases:
            with self.subTest(lasso=lasso):
                self.assertEqual(winner(game, lasso), name)

    def test_the_weight_is_that_of_the_stem(self):
        cases = (
            (((), ((1, "move"),)), 0),
            (((), ((0, "slip"),)), "endless"),
            ((((0, "slip"),), ((0, "slip"),)), "endless"),
            ((((0, "slip"),), ((1, "move"),)), 5),
            ((((0, "move"),), ((1, "move"),)), 0),
            ((((0, "slip"),), ((0, "move"), (1, "move"))), 3),
            ((((0, "slip"), (0, "slip"), (0, "slip"), (1, "move"), (2, "slip")), ((1, "move"),)), 18),
            ((((2, "slip"),), ((1, "move"), (0, "move"))), 7),
            ((((2, "slip"),), ((1, "move"), (2, "slip"))), "endless"),
        )
        for lasso, weight in cases:
            with self.subTest(lasso=lasso):
                self.assertEqual(repr(lasso_weight(EDGES, lasso)), repr(weight))

    def test_lassos_by_chance(self):
        chance = random.Random(7)
        for _ in range(300):
            game = chance_game(chance)
            stem, loop = chance_lasso(chance, game, 12)
            found = weights(game, stem + loop, loop[0][0])
            endless = [step for step in loop if step[1] == "slip"]
            self.assertEqual(lasso_weight(game, (stem, loop)), "endless" if endless else sum(found))
            even = max(game[place][1] for place, _ in loop) in range(0, 9, 2)
            self.assertEqual(winner(game, (stem, loop)), "keeper" if even else "foe")

    def test_long_lassos(self):
        stem, loop = ((0, "slip"), (1, "move")) * 400, ((0, "move"), (1, "move")) * 300
        self.assertIs(is_lasso(BIG, (stem, loop)), True)
        self.assertIs(is_lasso(BIG, (stem, loop + ((1, "move"),))), False)
        self.assertEqual([winner(BIG, (stem, loop)), lasso_weight(BIG, (stem, loop))], ["foe", 3600])
        self.assertEqual(lasso_weight(BIG, (stem, loop[:-2] + stem[-2:])), "endless")


class PathsTest(unittest.TestCase):
    def test_paths(self):
        for name, path in GOOD_PATHS.items():
            with self.subTest(name=name):
                self.assertIs(is_path(EDGES, path), True)

    def test_values_that_are_no_paths(self):
        for thing in (*BAD_PATHS.values(), *JUNK, *GOOD_LASSOS.values()):
            with self.subTest(thing=thing):
                self.assertIs(is_path(EDGES, thing), False)
                name, attributes = raised(path_weight, EDGES, thing)
                self.assertEqual((name, list(attributes)), ("BadPath", ["thing"]))
                self.assertIs(attributes["thing"], thing)

    def test_each_change_of_a_path_is_judged_rightly(self):
        chance = random.Random(8)
        answers = {True: 0, False: 0}
        for _ in range(60):
            game = chance_game(chance)
            path = chance_walk(chance, game, chance.randrange(len(game)), chance.randint(0, 5))
            self.assertIs(is_path(game, path), True)
            for thing in changed(path):
                if is_path(game, thing) is not looks_like_path(game, thing):
                    self.fail(f"{thing!r} is misjudged in {game!r}")
                answers[is_path(game, thing)] += 1
        self.assertTrue(min(answers.values()) > 100, answers)

    def test_the_weight_is_that_of_the_slips(self):
        cases = (
            (((), 2), 0),
            ((((0, "move"),), 1), 0),
            ((((0, "slip"),), 1), 5),
            ((((0, "slip"),), 0), 3),
            ((((0, "slip"), (0, "slip"), (1, "move"), (2, "slip"), (1, "move")), 0), 15),
        )
        for path, weight in cases:
            with self.subTest(path=path):
                self.assertEqual(path_weight(EDGES, path), weight)

    def test_paths_by_chance(self):
        chance = random.Random(9)
        for _ in range(300):
            game = chance_game(chance)
            path = chance_walk(chance, game, chance.randrange(len(game)), chance.randint(0, 20))
            self.assertEqual(path_weight(game, path), sum(weights(game, *path)))

    def test_long_paths(self):
        steps = ((0, "slip"), (1, "move")) * 450
        self.assertEqual([is_path(BIG, (steps, 0)), is_path(BIG, (steps, 1))], [True, False])
        self.assertEqual(path_weight(BIG, (steps, 0)), 4050)


class ArgumentsTest(unittest.TestCase):
    def test_bad_game_comes_first(self):
        for call in (is_lasso, is_path, winner, lasso_weight, path_weight):
            for game in NO_GAMES:
                for thing in (GOOD_LASSOS["an empty stem"], GOOD_PATHS["a move"], None):
                    with self.subTest(call=call.__name__, game=game):
                        name, attributes = raised(call, game, thing)
                        self.assertEqual((name, list(attributes)), ("BadGame", ["thing"]))
                        self.assertIs(attributes["thing"], game)

    def test_arguments_by_name(self):
        lasso, path = GOOD_LASSOS["an empty stem"], GOOD_PATHS["a move"]
        self.assertEqual([is_lasso(game=EDGES, thing=lasso), is_path(game=EDGES, thing=path)], [True, True])
        self.assertEqual([winner(game=EDGES, lasso=lasso), lasso_weight(game=EDGES, lasso=lasso)], ["keeper", 0])
        self.assertEqual(path_weight(game=EDGES, path=path), 0)

    def test_nothing_is_changed(self):
        lists = [[(0, "move")], [(1, "move")]]
        is_lasso(EDGES, lists)
        is_path(EDGES, lists)
        self.assertEqual(lists, [[(0, "move")], [(1, "move")]])

    def test_lassos_are_those_of_the_game(self):
        self.assertIs(is_lasso(GAME, ((), ((0, "slip"), (1, "move")))), True)
        self.assertIs(is_lasso(EDGES, ((), ((0, "slip"), (1, "slip")))), False)


if __name__ == "__main__":
    unittest.main()
