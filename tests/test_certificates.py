"""[4.4] and [4.5]: measures and certificates."""

import copy
import random
import unittest

from howmanyslips.numbers import best_plan, game_holds, is_best_plan, judge_game, numbers
from howmanyslips.duels import is_best_attack
from tests import second
from tests.helpers import GAME, JUNK, bent, changed, replaced, small_games
from tests.test_numbers import TOLD

# The marks are 2, 1, 1: measures of the keeper have an item for 1, those of the foe for 2 and 0.
PAPER = ("numbers", (3, 2, 0), ((0, (0,)), (0, (0,)), None), ((1, (0, 0)), (2, (0, 0)), (2, (0, 0))))


def tweaked(chance, game, paper):
    """A certificate with one to three numbers, moves, choices or measures changed, of the right form if possible."""
    name, told, keeps, assaults = paper
    told, keeps, assaults = list(told), list(keeps), list(assaults)
    top = max(row[1] for row in game)
    for _ in range(chance.choice((1, 1, 1, 2, 3))):
        at = chance.randrange(len(game))
        owner, _, moves, slips = game[at]
        what = chance.randrange(4)
        if what == 0:
            told[at] = chance.choice((0, 1, 2, 3, 4, 5, "any", "ever", chance.choice(told)))
        elif what == 1 and keeps[at] is not None:
            keeps[at] = (None if owner == "foe" else chance.choice(moves), keeps[at][1])
        elif what == 2 and assaults[at] is not None:
            choices = moves if owner == "foe" else (None, *[goal for goal, _ in slips])
            assaults[at] = (chance.choice(choices), assaults[at][1])
        else:
            table = chance.choice((keeps, assaults))
            if table[at] is not None and table[at][1]:
                item = chance.randrange(len(table[at][1]))
                table[at] = replaced(table[at], (1, item), max(0, table[at][1][item] + chance.choice((-1, 1, 2))))
        keeps[at] = None if told[at] == 0 else keeps[at] or (
            None if owner == "foe" else chance.choice(moves), (0,) * ((top + 1) // 2))
        assaults[at] = None if told[at] == "ever" else assaults[at] or (
            chance.choice(moves) if owner == "foe" else None, (0,) * (top // 2 + 1))
    return name, tuple(told), tuple(keeps), tuple(assaults)


class CertificatesTest(unittest.TestCase):
    def check(self, game, paper):
        """Whether the game holds, after a look at what has to follow."""
        wrong = second.broken(game, paper)
        self.assertIs(game_holds(game, paper), not wrong, (game, paper, wrong))
        return wrong

    def test_judge_game_gives_certificates(self):
        games = [game for game, _ in TOLD.values()]
        games += small_games(61, 400, many=5) + small_games(62, 100, many=7, mark=6, weight=9)
        for game in games:
            paper = judge_game(game)
            self.assertEqual(self.check(game, paper), set())
            self.assertEqual(paper[:2], ("numbers", numbers(game)))

    def test_no_item_is_above_the_number_of_places_with_its_mark(self):
        for game in small_games(63, 300, many=6, mark=6):
            marks = [row[1] for row in game]
            _, _, keeps, assaults = judge_game(game)
            for parity, table in ((1, keeps), (0, assaults)):
                items = [mark for mark in range(max(marks), -1, -1) if mark % 2 == parity]
                for entry in table:
                    if entry is not None:
                        for mark, item in zip(items, entry[1], strict=True):
                            self.assertLessEqual(item, marks.count(mark), game)

    def test_the_documents(self):
        self.assertIs(game_holds(GAME, PAPER), True)

    def test_certificates_whoever_made_them(self):
        right = (
            ((2, 0, 1, 0), 7), ((2, 1, 1, 0), 10 ** 39), ((3, 0, 1, 0), 9), ((3, 2, 1, 1), 5), ((3, 0, 1, 1), 99),
            ((3, 1, 1, 1), 1), ((3, 1, 1, 1), 10 ** 39), ((3, 2, 1, 0), 4),
        )
        for way, part in right:
            with self.subTest(way=way, part=part):
                self.assertIs(game_holds(GAME, replaced(PAPER, way, part)), True)
        wrong = (
            ((0,), "number"), ((1, 0), 4), ((1, 0), 2), ((1, 0), "any"), ((1, 1), 1), ((1, 2), 1), ((2, 1, 0), 2),
            ((2, 2), (None, (0,))), ((2, 0), None), ((3, 0), None), ((3, 0, 0), None), ((3, 0, 0), 0), ((3, 1, 0), None),
            ((3, 1, 0), 0), ((3, 2, 0), None), ((2, 0, 0), 1), ((2, 0, 0), None), ((2, 0, 1), ()), ((2, 0, 1), (0, 0)),
            ((3, 0, 1), (0,)), ((3, 0, 1), (0, 0, 0)), ((2, 0, 1, 0), -1), ((3, 0, 1, 1), -1),
        )
        for way, part in wrong:
            with self.subTest(way=way, part=part):
                self.assertIs(game_holds(GAME, replaced(PAPER, way, part)), False)

    def test_bools_and_lists_at_each_depth(self):
        game = (("keeper", 1, (0, 1), ((1, 1),)), ("foe", 0, (0, 1), ()))
        for paper in (judge_game(game), judge_game(GAME), judge_game(TOLD["endless slips alone are lost"][0])):
            for thing in bent(paper):
                with self.subTest(thing=thing):
                    self.assertEqual([game_holds(game, thing), game_holds(GAME, thing)], [False, False])

    def test_any_value_is_answered(self):
        for thing in (*JUNK, ("numbers",), ("numbers", (), (), ()), GAME, (0, 0, None), PAPER[1:], PAPER + (0,)):
            with self.subTest(thing=thing):
                self.assertIs(game_holds(GAME, thing), False)

    def test_each_change_of_a_certificate_is_judged_rightly(self):
        answers = {True: 0, False: 0}
        for game in (GAME, *small_games(64, 12, many=3, mark=2)):
            for thing in changed(judge_game(game)):
                answers[not self.check(game, thing)] += 1
        self.assertTrue(min(answers.values()) > 30, answers)

    def test_all_clauses_count_each_by_itself(self):
        chance = random.Random(65)
        alone = {name: 0 for name in ("right", "form", 1, 2, 3, 4)}
        for game in small_games(65, 500):
            for _ in range(12):
                paper = tweaked(chance, game, judge_game(game))
                wrong = self.check(game, paper)
                if len(wrong) < 2:
                    alone[(*wrong, "right")[0]] += 1
                if not wrong:
                    self.accepted(game, paper)
        self.assertTrue(min(alone[name] for name in ("right", 1, 2, 3, 4)) > 30, alone)

    def accepted(self, game, paper):
        """What a certificate tells is right, whoever made it."""
        _, told, keeps, assaults = paper
        self.assertEqual(told, numbers(game))
        moves = [row[2][-1] if row[0] == "keeper" else None for row in game]
        plan = tuple(move if keep is None else keep[0] for keep, move in zip(keeps, moves))
        self.assertIs(is_best_plan(game, plan), True, (game, paper))
        choices = [row[2][-1] if row[0] == "foe" else None for row in game]
        attack = tuple(choice if assault is None else assault[0] for assault, choice in zip(assaults, choices))
        self.assertIs(is_best_attack(game, attack), True, (game, paper))

    def test_what_is_judged_tells_a_best_plan_and_a_best_attack(self):
        for game in small_games(66, 100, many=5):
            self.accepted(game, judge_game(game))

    def test_nothing_is_changed(self):
        thing = ["numbers", [3, 2, 0], [[0, [0]], [0, [0]], None], [[1, [0, 0]], [2, [0, 0]], [2, [0, 0]]]]
        before = copy.deepcopy(thing)
        game_holds(GAME, thing)
        self.assertEqual(thing, before)
        self.assertEqual([judge_game(GAME), best_plan(GAME)], [judge_game(GAME), best_plan(GAME)])


class FallsTest(unittest.TestCase):
    """[4.4], asked by certificates of games in which nothing but one measure is open."""

    def kept(self, marks, moves, measures):
        """Whether measures hold for a game of the foe, each place of which is kept, with the moves."""
        game = tuple(("foe", mark, goals, ()) for mark, goals in zip(marks, moves))
        many = len(game)
        self.assertEqual(numbers(game), ("ever",) * many)
        thing = ("numbers", ("ever",) * many, tuple((None, measure) for measure in measures), (None,) * many)
        self.assertIs(game_holds(game, thing), not second.broken(game, thing))
        return game_holds(game, thing)

    def lost(self, marks, moves, measures):
        """Whether measures hold for a game of the keeper, each place of which is lost, with the moves."""
        game = tuple(("keeper", mark, goals, ()) for mark, goals in zip(marks, moves))
        many = len(game)
        self.assertEqual(numbers(game), (0,) * many)
        thing = ("numbers", (0,) * many, (None,) * many, tuple((None, measure) for measure in measures))
        self.assertIs(game_holds(game, thing), not second.broken(game, thing))
        return game_holds(game, thing)

    def test_measures_of_the_keeper(self):
        marks, moves = (1, 2, 3, 4), ((1,), (2,), (3,), (0,))
        cases = (
            (((0, 1), (1, 0), (1, 0), (0, 0)), False), (((1, 1), (1, 0), (1, 0), (0, 0)), True),
            (((1, 0), (1, 0), (1, 0), (0, 0)), False), (((2, 0), (1, 9), (1, 0), (0, 0)), True),
            (((2, 0), (1, 0), (1, 9), (0, 0)), True), (((2, 0), (1, 0), (2, 0), (0, 0)), False),
            (((2, 0), (1, 0), (1, 9), (1, 0)), False), (((2, 0), (1, 0), (1, 0), (0, 9)), True),
            (((2, 0), (1, 0), (1, 0), (0, 10 ** 39)), True), (((9, 0), (8, 0), (7, 0), (6, 5)), True),
            (((9, 0), (8, 0), (7, 0), (8, 0)), False), (((0, 0), (1, 0), (1, 0), (0, 0)), False),
        )
        for measures, answer in cases:
            with self.subTest(measures=measures):
                self.assertIs(self.kept(marks, moves, measures), answer)

    def test_measures_of_the_foe(self):
        marks, moves = (0, 1, 2, 3), ((1,), (2,), (3,), (0,))
        cases = (
            (((1, 1), (1, 0), (1, 0), (0, 0)), True), (((1, 0), (1, 0), (1, 0), (0, 0)), False),
            (((0, 1), (1, 0), (1, 0), (0, 0)), False), (((2, 0), (1, 9), (1, 0), (0, 0)), True),
            (((2, 0), (1, 0), (1, 9), (0, 0)), True), (((2, 0), (1, 0), (1, 0), (1, 0)), False),
            (((2, 0), (1, 0), (1, 0), (0, 9)), True), (((2, 0), (0, 0), (1, 0), (0, 0)), False),
            (((9, 9), (9, 8), (9, 0), (8, 0)), True), (((9, 8), (9, 8), (9, 0), (8, 0)), False),
        )
        for measures, answer in cases:
            with self.subTest(measures=measures):
                self.assertIs(self.lost(marks, moves, measures), answer)

    def test_an_edge_to_the_place_itself(self):
        self.assertIs(self.kept((0,), ((0,),), ((),)), True)
        self.assertIs(self.kept((2, 1), ((0,), (0,)), ((0,), (0,))), False)
        self.assertIs(self.kept((2, 1), ((0,), (0,)), ((0,), (1,))), True)
        self.assertIs(self.kept((2, 0), ((0,), (0,)), ((7,), (0,))), False)
        self.assertIs(self.lost((1,), ((0,),), ((0,),)), True)
        self.assertIs(self.lost((1, 0), ((0,), (0,)), ((0,), (0,))), False)
        self.assertIs(self.lost((1, 0), ((0,), (0,)), ((0,), (1,))), True)

    def test_a_measure_for_0_and_none_for_marks_that_no_place_can_have(self):
        game = (("foe", 0, (0,), ()),)
        for measure, answer in {(): True, (0,): False}.items():
            self.assertIs(game_holds(game, ("numbers", ("ever",), ((None, measure),), (None,))), answer)
        game = (("keeper", 1, (0,), ()),)
        for measure, answer in {(): False, (0,): True, (5,): True, (0, 0): False}.items():
            self.assertIs(game_holds(game, ("numbers", (0,), (None,), ((None, measure),))), answer)


class ClausesTest(unittest.TestCase):
    """Each clause of [4.5] by hand: a right table, and one that breaks this clause alone."""

    def check(self, game, right, changes):
        self.assertIs(game_holds(game, right), True)
        for clause, way, part in changes:
            with self.subTest(clause=clause, way=way, part=part):
                wrong = replaced(right, way, part)
                self.assertEqual(second.broken(game, wrong), {clause})
                self.assertIs(game_holds(game, wrong), False)

    def test_moves_of_the_keeper(self):
        # 0 moves to itself, to 1, which is kept, or to 2, which is lost.
        game = (("keeper", 1, (0, 1, 2), ()), ("keeper", 2, (1,), ()), ("foe", 1, (2,), ()))
        right = ("numbers", ("ever", "ever", 0), ((1, (1,)), (1, (0,)), None), (None, None, (2, (0, 0))))
        self.check(game, right, ((1, (2, 0, 0), 0), (1, (2, 0, 0), 2), (1, (2, 0, 1), (0,)), (1, (2, 1, 1), (1,))))

    def test_moves_of_the_foe_in_the_keepers_table(self):
        game = (("foe", 1, (1, 2), ()), ("keeper", 0, (1,), ((3, 2),)), ("keeper", 2, (2,), ()), ("foe", 1, (3,), ()))
        right = ("numbers", (2, 2, "ever", 0), ((None, (1,)), (1, (0,)), (2, (0,)), None),
                 ((1, (0, 0)), (3, (0, 0)), None, (3, (0, 0))))
        self.check(game, right, ((1, (2, 0, 1), (0,)), (1, (2, 1, 1), (1,))))

    def test_slips_in_the_keepers_table(self):
        # At "ever" a slip has to fall, too; at an integer and at "any" it need not.
        game = (("keeper", 1, (1,), ((0, 1), (1, 1))), ("keeper", 2, (1,), ((0, 3),)))
        self.assertEqual(numbers(game), ("any", "any"))
        right = ("numbers", ("any", "any"), ((1, (1,)), (1, (0,))), ((0, (0, 0)), (0, (1, 0))))
        self.check(game, right, ((1, (2, 0, 1), (0,)), (4, (3, 1, 1), (0, 0))))
        game = (("keeper", 0, (0,), ((1, 1),)), ("keeper", 1, (2,), ()), ("keeper", 2, (0,), ()))
        right = ("numbers", ("ever",) * 3, ((0, (1,)), (2, (1,)), (0, (0,))), (None,) * 3)
        self.check(game, right, ((2, (2, 0, 1), (0,)), (2, (2, 1, 1), (2,)), (1, (2, 2, 1), (1,))))

    def test_numbers_that_slips_do_not_allow(self):
        # The slip of 0 weighs 2 and leads to 1, which has 3: no more than 5 can be told of 0.
        game = (("keeper", 0, (0,), ((1, 2),)), ("keeper", 0, (1,), ((2, 3),)), ("foe", 1, (2,), ()))
        right = ("numbers", (5, 3, 0), ((0, (0,)), (1, (0,)), None), ((1, (0,)), (2, (0,)), (2, (0,))))
        self.assertIs(game_holds(game, right), True)
        for way, part, clauses in (
                ((1, 0), 6, {2}), ((1, 0), 4, {4}), ((1, 0), 2, {4}), ((1, 1), 4, {2, 4}), ((1, 1), 2, {2, 4}),
                ((1, 0), "any", {2, 4}), ((1, 1), "any", {2, 4}), ((3, 0, 0), None, {3})):
            wrong = replaced(right, way, part)
            self.assertEqual((second.broken(game, wrong), game_holds(game, wrong)), (clauses, False), (way, part))

    def test_a_slip_from_any_to_an_integer(self):
        # Endless slips between 0 and 1 are lost, but one slip from 0 to 2 is enough.
        game = (("keeper", 0, (0,), ((1, 1), (2, 3))), ("keeper", 1, (0,), ()), ("foe", 1, (2,), ()))
        keeps, sunk = ((0, (0,)), (0, (1,)), None), (2, (0,))
        right = ("numbers", (3, 3, 0), keeps, ((2, (0,)), (None, (0,)), sunk))
        self.assertIs(game_holds(game, right), True)
        for choice in (1, None):
            wrong = ("numbers", ("any", "any", 0), keeps, ((choice, (1,)), (None, (0,)), sunk))
            self.assertEqual(second.broken(game, wrong), {2} if choice == 1 else {2, 3})
            self.assertIs(game_holds(game, wrong), False)
        bare = (("keeper", 0, (0,), ((1, 1),)), *game[1:])
        self.assertIs(game_holds(bare, ("numbers", ("any", "any", 0), keeps, ((1, (1,)), (None, (0,)), sunk))), True)

    def test_moves_in_the_foes_table(self):
        game = (("foe", 0, (0, 1, 2), ()), ("foe", 1, (1,), ()), ("foe", 2, (2,), ()))
        right = ("numbers", (0, 0, "ever"), (None, None, (None, (0,))), ((1, (0, 1)), (1, (0, 0)), None))
        self.check(game, right, ((3, (3, 0, 0), 0), (3, (3, 0, 0), 2), (3, (3, 0, 1), (0, 0)), (3, (3, 1, 1), (0, 1))))

    def test_all_moves_of_the_keeper_in_the_foes_table(self):
        game = (("keeper", 0, (1, 2), ((0, 1),)), ("foe", 1, (1,), ()), ("foe", 3, (2,), ()))
        right = ("numbers", (0, 0, 0), (None,) * 3, ((None, (0, 1)), (1, (0, 0)), (2, (0, 0))))
        self.check(game, right, (
            (3, (3, 0, 1), (0, 0)), (3, (3, 1, 1), (0, 1)), (3, (3, 2, 1), (0, 1)), (4, (3, 0, 0), 0)))

    def test_slips_in_the_foes_table(self):
        # 0 slips to 1, which moves back: the foe wins with endless slips alone.
        game = (("keeper", 0, (0,), ((0, 1), (1, 1))), ("keeper", 1, (0,), ()))
        right = ("numbers", ("any", "any"), ((0, (0,)), (0, (1,))), ((1, (1,)), (None, (0,))))
        self.check(game, right, (
            (3, (3, 0, 0), None), (4, (3, 0, 0), 0), (4, (3, 0, 1), (0,)), (4, (3, 1, 1), (1,)),
            (4, (3, 1, 1), (10 ** 39,)), (1, (2, 1, 1), (0,))))
        self.assertIs(game_holds(game, replaced(right, (3, 0, 1), (10 ** 39,))), True)


if __name__ == "__main__":
    unittest.main()
