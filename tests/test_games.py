"""[1.1]: games."""

import copy
import re
import unittest

from howmanyslips.games import game_text, is_game, places
from tests.helpers import GAME, JUNK, Stranger, changed, chance_games, raised

GOOD = {
    "one place alone": (("foe", 0, (0,), ()),),
    "a slip to the place itself": (("keeper", 0, (0, 1), ((0, 4),)), ("foe", 1, (0,), ())),
    "a slip on the edge of a move": (("keeper", 0, (0, 1), ((1, 4),)), ("foe", 1, (0, 1), ())),
    "all edges": (("keeper", 3, (0, 1), ((0, 9), (1, 1))), ("keeper", 0, (0, 1), ((0, 1), (1, 9)))),
    "falling weights": (("keeper", 0, (1,), ((0, 9), (1, 1))), ("foe", 0, (0,), ())),
    "a great mark": (("keeper", 10 ** 39, (0,), ()),),
    "a great weight": (("keeper", 0, (0,), ((0, 10 ** 39),)),),
    "many places": tuple(("keeper", 7, tuple(range(0, 60, 7)), ((59, 10),)) for _ in range(60)),
    "the document's": GAME,
}

BAD = {
    "no place": (),
    "a list of places": [("foe", 0, (0,), ())],
    "a place that is a list": (["foe", 0, (0,), ()],),
    "moves that are a list": (("foe", 0, [0], ()),),
    "slips of the keeper that are a list": (("keeper", 0, (0,), []),),
    "slips of the foe that are a list": (("foe", 0, (0,), []),),
    "a slip that is a list": (("keeper", 0, (0,), ([0, 1],)),),
    "slips that are a dict": (("keeper", 0, (0,), {0: 1}),),
    "slips that are None": (("foe", 0, (0,), None),),
    "a mark that is a bool": (("foe", False, (0,), ()),),
    "a move that is a bool": (("foe", 0, (False,), ()),),
    "a place of a slip that is a bool": (("keeper", 0, (0,), ((False, 1),)),),
    "a weight that is a bool": (("keeper", 0, (0,), ((0, True),)),),
    "a mark below 0": (("foe", -1, (0,), ()),),
    "a mark that is a string": (("foe", "0", (0,), ()),),
    "no moves": (("foe", 0, (), ()),),
    "no moves, but slips": (("keeper", 0, (), ((0, 1),)),),
    "a move too far": (("foe", 0, (1,), ()),),
    "a move below 0": (("foe", 0, (-1,), ()),),
    "moves that fall": (("foe", 0, (1, 0), ()), ("foe", 0, (0,), ())),
    "a move twice": (("foe", 0, (0, 0), ()),),
    "a slip too far": (("keeper", 0, (0,), ((1, 1),)),),
    "a slip below 0": (("keeper", 0, (0,), ((-1, 1),)),),
    "slips that fall": (("keeper", 0, (0,), ((1, 1), (0, 2))), ("foe", 0, (0,), ())),
    "a slip twice": (("keeper", 0, (0,), ((0, 1), (0, 2))),),
    "the same slip twice": (("keeper", 0, (0,), ((0, 1), (0, 1))),),
    "a weight of 0": (("keeper", 0, (0,), ((0, 0),)),),
    "a weight below 0": (("keeper", 0, (0,), ((0, -1),)),),
    "a slip without weight": (("keeper", 0, (0,), ((0,),)),),
    "a slip with two weights": (("keeper", 0, (0,), ((0, 1, 1),)),),
    "a slip that is a place": (("keeper", 0, (0,), (0,)),),
    "slips of the foe": (("foe", 0, (0,), ((0, 1),)),),
    "another owner": (("Keeper", 0, (0,), ()),),
    "no owner": (("", 0, (0,), ()),),
    "an owner that is None": ((None, 0, (0,), ()),),
    "an owner that is a list": ((["foe"], 0, (0,), ()),),
    "an owner that is a stranger": ((Stranger(), 0, (0,), ()),),
    "slips left out": (("foe", 0, (0,)),),
    "an item too many": (("foe", 0, (0,), (), ()),),
    "a place that is no tuple": (("foe", 0, (0,), ()), 0),
    "a place without its tuple": ("foe", 0, (0,), ()),
    "the text": "foe 0 to 0",
}

ROW = re.compile(
    r"\('(?P<owner>keeper|foe)', \d+, \((?P<moves>\d+,|\d+(, \d+)+)\), "
    r"\((?P<slips>|\(\d+, \d+\),|\(\d+, \d+\)(, \(\d+, \d+\))+)\)\)")


def looks_like_game(thing):
    """The definition once more, read off what Python writes for the value."""
    if type(thing) is not tuple or not thing:
        return False
    for row in thing:
        found = ROW.fullmatch(repr(row))
        if not found or (found["owner"] == "foe" and found["slips"]):
            return False
        moves = [int(word) for word in re.findall(r"\d+", found["moves"])]
        goals = [int(word) for word in re.findall(r"\((\d+),", found["slips"])]
        weights = [int(word) for word in re.findall(r", (\d+)\)", found["slips"])]
        if moves != sorted(set(moves)) or goals != sorted(set(goals)) or 0 in weights:
            return False
        if max(moves + goals) >= len(thing):
            return False
    return True


class GamesTest(unittest.TestCase):
    def test_games(self):
        for name, game in GOOD.items():
            with self.subTest(name=name):
                self.assertIs(is_game(game), True)

    def test_values_that_are_no_games(self):
        for name, thing in BAD.items():
            with self.subTest(name=name):
                self.assertIs(is_game(thing), False)

    def test_any_value_is_answered(self):
        for thing in JUNK:
            with self.subTest(thing=thing):
                self.assertIs(is_game(thing), False)
        long = (("foe", 0, (0,), ()),) * 1000
        self.assertIs(is_game(long), True)
        self.assertIs(is_game(long + (0,)), False)

    def test_each_change_of_a_game_is_judged_rightly(self):
        answers = {True: 0, False: 0}
        for game in (GAME, GOOD["one place alone"], GOOD["all edges"], *chance_games(1, 12)):
            for thing in changed(game):
                if is_game(thing) is not looks_like_game(thing):
                    self.fail(f"{thing!r} is misjudged")
                answers[is_game(thing)] += 1
        self.assertTrue(min(answers.values()) > 500, answers)

    def test_nothing_is_changed(self):
        for thing in (*GOOD.values(), *BAD.values()):
            before = copy.deepcopy(thing)
            is_game(thing)
            self.assertEqual(before, thing)

    def test_places_counts_them(self):
        for game in (*GOOD.values(), *chance_games(2, 20)):
            self.assertEqual(places(game), len(game))
        self.assertEqual(places(GAME), 3)

    def test_arguments_by_name(self):
        self.assertEqual([is_game(thing=GAME), places(game=GAME)], [True, 3])

    def test_bad_game_has_the_whole_argument(self):
        for call in (places, game_text):
            for thing in (*BAD.values(), *JUNK):
                with self.subTest(call=call.__name__, thing=thing):
                    name, attributes = raised(call, thing)
                    self.assertEqual((name, list(attributes)), ("BadGame", ["thing"]))
                    self.assertIs(attributes["thing"], thing)


if __name__ == "__main__":
    unittest.main()
