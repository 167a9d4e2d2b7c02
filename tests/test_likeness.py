"""[11.1] to [11.3]: likenesses, quotients, and certificates for two places."""

import copy
import random
import unittest

from howmanyslips.games import is_game
from howmanyslips.likeness import alike, alike_holds, classes, is_likeness, judge_alike, quotient
from howmanyslips.numbers import numbers
from tests.helpers import JUNK, ErrorsCase, Stranger, bent, changed, replaced, small_game

# 0 and 1 are alike, so are 2, 3 and 4; 5 differs from them by where it moves, 6 by the weight of its slip.
TWINS = (
    ("keeper", 0, (2, 3), ((5, 2),)), ("keeper", 0, (4,), ((5, 2), )), ("keeper", 1, (0, 2), ((1, 1), (5, 3))),
    ("keeper", 1, (1, 3), ((0, 2), (1, 1), (5, 3))), ("keeper", 1, (0, 1, 4), ((0, 1), (5, 3))),
    ("keeper", 1, (0, 1), ((0, 1), (5, 3))), ("keeper", 1, (0, 4), ((0, 2), (5, 3))),
)
TWIN_CLASSES = ((0, 1), (2, 3, 4), (5,), (6,))

NO_LIKENESSES = {
    "nothing": (), "an empty class": ((), *TWIN_CLASSES), "a place left out": ((0, 1), (2, 3), (5,), (6,)),
    "a class left out": TWIN_CLASSES[:3], "a class twice": (*TWIN_CLASSES, (6,)), "a place twice": ((0, 1), (2, 3, 4), (4, 5), (6,)),
    "a place twice in its class": ((0, 1, 1), (2, 3, 4), (5,), (6,)), "a class in reverse": ((1, 0), (2, 3, 4), (5,), (6,)),
    "classes in reverse": TWIN_CLASSES[::-1], "two exchanged": ((0, 1), (2, 3, 4), (6,), (5,)),
    "a list": list(TWIN_CLASSES), "a list for a class": ([0, 1], (2, 3, 4), (5,), (6,)), "a place alone": ((0, 1), (2, 3, 4), 5, (6,)),
    "a bool": ((0, True), (2, 3, 4), (5,), (6,)), "a bool for 0": ((False, 1), (2, 3, 4), (5,), (6,)),
    "a place beyond": (*TWIN_CLASSES, (7,)), "a place below 0": ((-1, 0, 1), (2, 3, 4), (5,), (6,)),
    "a stranger": ((0, 1), (2, 3, 4), (5,), (Stranger(),)), "owners and marks alone": ((0, 1), (2, 3, 4, 5, 6)),
    "5 with the others": ((0, 1), (2, 3, 4, 5), (6,)), "6 with the others": ((0, 1), (2, 3, 4, 6), (5,)),
    "unlike marks": ((0, 1, 2), (3, 4), (5,), (6,)), "split so that moves tell": ((0,), (1,), (2, 3, 4), (5,), (6,)),
    "all in one": ((0, 1, 2, 3, 4, 5, 6),), "a string": "0", "a dict": {0: 1},
}


def partitions(places):
    """All partitions of the places, each as a list of lists."""
    if not places:
        yield []
        return
    for rest in partitions(places[1:]):
        yield [places[:1], *rest]
        for at in range(len(rest)):
            yield [places[:1] + rest[at], *rest[:at], *rest[at + 1:]]


def ordered(groups):
    """A partition as a tuple of ascending tuples, in the order of their first places."""
    return tuple(sorted(tuple(sorted(group)) for group in groups))


def is_like(game, groups):
    """The words of [11.1] for a partition."""
    for group in groups:
        for a in group:
            for b in group:
                if game[a][:2] != game[b][:2]:
                    return False
                for other in groups:
                    if any(goal in other for goal in game[a][2]) != any(goal in other for goal in game[b][2]):
                        return False
                    least = [min([weight for goal, weight in game[at][3] if goal in other], default=None) for at in (a, b)]
                    if least[0] != least[1]:
                        return False
    return True


def is_row(game, earlier, row):
    """The words of [11.3] for a row, the earlier ones being right."""
    if type(row) is not tuple or len(row) != 3 or any(type(at) is not int or not 0 <= at < len(game) for at in row[:2]):
        return False
    a, b, reason = row

    def known(c, d):
        return any(other[:2] in ((c, d), (d, c)) for other in earlier)

    if type(reason) is str:
        return (reason == "owner" and game[a][0] != game[b][0]) or (reason == "mark" and game[a][1] != game[b][1])
    if type(reason) is not tuple or len(reason) != 2 or type(reason[0]) is not str or type(reason[1]) is not int:
        return False
    kind, c = reason
    for one, other in ((a, b), (b, a)):
        if kind == "move" and c in game[one][2] and all(known(c, d) for d in game[other][2]):
            return True
        if kind == "slip":
            for goal, weight in game[one][3]:
                if goal == c and all(known(c, d) for d, limit in game[other][3] if limit <= weight):
                    return True
    return False


def is_right(game, u, v, thing):
    """The words of [11.3] for a certificate."""
    if type(thing) is not tuple or len(thing) != 2 or type(thing[0]) is not str:
        return False
    if thing[0] == "alike":
        every = {repr(ordered(groups)): groups for groups in partitions(list(range(len(game))))}
        groups = every.get(repr(thing[1]))
        return groups is not None and is_like(game, groups) and any(u in group and v in group for group in groups)
    rows = thing[1]
    if thing[0] != "apart" or type(rows) is not tuple or not rows:
        return False
    return all(is_row(game, rows[:at], row) for at, row in enumerate(rows)) and rows[-1][:2] == (u, v)


def twin_game(chance, many=5):
    """A game in which places often are alike: few marks, few weights, and places that are made from others."""
    game = list(small_game(chance, many, 1, 2, slips=6))
    if len(game) > 2 and chance.random() < 0.7:
        one, other = chance.sample(range(len(game)), 2)
        game[other] = game[one]
        if chance.random() < 0.5:
            at = chance.randrange(len(game))
            owner, mark, moves, slips = game[at]
            game[at] = (owner, mark, tuple(sorted({one if goal == other else goal for goal in moves})), slips)
        if chance.random() < 0.4 and game[one][0] == "keeper":
            owner, mark, moves, slips = game[other]
            game[other] = (owner, mark, moves, tuple((goal, chance.choice((weight, 2))) for goal, weight in slips))
    return tuple(game)


def twin_games(seed, times, many=5):
    chance = random.Random(seed)
    return [twin_game(chance, many) for _ in range(times)]


class LikenessesTest(unittest.TestCase):
    def test_the_greatest_and_lesser_ones(self):
        self.assertEqual(classes(TWINS), TWIN_CLASSES)
        alone = tuple((place,) for place in range(7))
        for likeness in (TWIN_CLASSES, alone):
            self.assertIs(is_likeness(TWINS, likeness), True)
        lesser = ((0, 1), (2, 4), (3,), (5,), (6,))
        self.assertIs(is_likeness(TWINS, lesser), is_like(TWINS, lesser))

    def test_values_that_are_no_likenesses(self):
        for name, thing in (*NO_LIKENESSES.items(), *enumerate(JUNK)):
            with self.subTest(name=name):
                self.assertIs(is_likeness(TWINS, thing), False)

    def test_one_place_alone(self):
        for game in ((("keeper", 1, (0,), ((0, 1),)),), (("foe", 0, (0,), ()),)):
            self.assertEqual([classes(game), quotient(game)], [((0,),), game])
            self.assertEqual([alike(game, 0, 0), judge_alike(game, 0, 0)], [True, ("alike", ((0,),))])
            self.assertIs(is_likeness(game, ((0,),)), True)
            for thing in ((), ((),), (0,), ((False,),), ([0],), [(0,)], ((0,), ()), ((0, 0),), ((1,),)):
                self.assertIs(is_likeness(game, thing), False)

    def test_what_makes_places_unlike(self):
        cases = {
            "nothing": ((("keeper", 0, (0,), ((1, 1),)), ("keeper", 0, (1,), ((0, 1),))), True),
            "owner": ((("keeper", 0, (0,), ()), ("foe", 0, (1,), ())), False),
            "mark": ((("keeper", 0, (0,), ()), ("keeper", 2, (1,), ())), False),
            "a slip": ((("keeper", 0, (0,), ()), ("keeper", 0, (1,), ((0, 1),))), False),
            "a weight": ((("keeper", 0, (0,), ((1, 2),)), ("keeper", 0, (1,), ((0, 1),))), False),
            "the number of slips counts nothing": (
                (("keeper", 0, (0,), ((1, 1),)), ("keeper", 0, (1,), ((0, 1), (1, 1)))), True),
            "greater weights count nothing": (
                (("keeper", 0, (0,), ((0, 9), (1, 1))), ("keeper", 0, (1,), ((1, 1),))), True),
            "the number of moves counts nothing": ((("foe", 0, (0,), ()), ("foe", 0, (0, 1), ())), True),
        }
        for name, (game, answer) in cases.items():
            with self.subTest(name=name):
                self.assertIs(alike(game, 0, 1), answer)
                self.assertEqual(classes(game), ((0, 1),) if answer else ((0,), (1,)))
                self.assertIs(is_likeness(game, ((0, 1),)), answer)
                self.assertIs(is_likeness(game, ((0,), (1,))), True)
                self.assertEqual(judge_alike(game, 0, 1)[0], "alike" if answer else "apart")

    def test_a_difference_that_is_far_away(self):
        rows = [("foe", 0, (at + 1,), ()) for at in range(6)]
        self.assertEqual(classes((*rows, ("foe", 0, (6,), ()))), (tuple(range(7)),))
        self.assertEqual(classes((*rows, ("foe", 1, (6,), ()))), tuple((at,) for at in range(7)))
        game = (*rows, ("foe", 1, (6,), ()))
        kind, paper = judge_alike(game, 1, 0)
        self.assertEqual([kind, paper[-1][:2], len(paper) <= 21], ["apart", (1, 0), True])
        self.assertTrue(is_right(game, 1, 0, (kind, paper)))

    def test_against_all_partitions(self):
        answers = {True: 0, False: 0}
        for game in twin_games(1101, 150):
            every = [groups for groups in partitions(list(range(len(game))))]
            right = [groups for groups in every if is_like(game, groups)]
            for groups in every:
                answer = groups in right
                self.assertIs(is_likeness(game, ordered(groups)), answer, (game, groups))
                answers[answer] += 1
            greatest = classes(game)
            self.assertIn(repr(greatest), [repr(ordered(groups)) for groups in right], game)
            for groups in right:
                for group in groups:
                    self.assertTrue(any(set(group) <= set(other) for other in greatest), (game, groups))
        self.assertTrue(min(answers.values()) > 200, answers)

    def test_each_change_is_judged_rightly(self):
        answers = {True: 0, False: 0}
        for game in twin_games(1102, 15, many=4):
            every = {repr(ordered(groups)): groups for groups in partitions(list(range(len(game))))}
            for thing in changed(classes(game)):
                groups = every.get(repr(thing))
                answer = groups is not None and is_like(game, groups)
                self.assertIs(is_likeness(game, thing), answer, (game, thing))
                answers[answer] += 1
        self.assertGreater(answers[False], 100)


class QuotientsTest(unittest.TestCase):
    def test_quotient(self):
        self.assertEqual(quotient(TWINS), (
            ("keeper", 0, (1,), ((2, 2),)), ("keeper", 1, (0, 1), ((0, 1), (2, 3))),
            ("keeper", 1, (0,), ((0, 1), (2, 3))), ("keeper", 1, (0, 1), ((0, 2), (2, 3)))))

    def test_a_game_without_twins_is_its_own_quotient(self):
        game = (("keeper", 2, (0,), ((1, 1),)), ("keeper", 1, (0, 2), ((2, 2),)), ("foe", 1, (2,), ()))
        self.assertEqual([classes(game), quotient(game)], [((0,), (1,), (2,)), game])

    def test_numbers_and_edges(self):
        fewer = 0
        for game in twin_games(1103, 300, many=6):
            groups, made = classes(game), quotient(game)
            self.assertIs(is_game(made), True, game)
            self.assertEqual(len(made), len(groups))
            told, short = numbers(game), numbers(made)
            group_of = {place: at for at, group in enumerate(groups) for place in group}
            for at, group in enumerate(groups):
                for place in group:
                    self.assertEqual(told[place], short[at], game)
                    owner, mark, moves, slips = game[place]
                    self.assertEqual((owner, mark), made[at][:2])
                    self.assertEqual({group_of[goal] for goal in moves}, set(made[at][2]), game)
                    least = {}
                    for goal, weight in slips:
                        least[group_of[goal]] = min(weight, least.get(group_of[goal], weight))
                    self.assertEqual(least, dict(made[at][3]), game)
            self.assertEqual(quotient(made), made, game)
            fewer += len(made) < len(game)
        self.assertGreater(fewer, 50)


class CertificatesTest(unittest.TestCase):
    def test_judge_alike(self):
        kinds = {"alike": 0, "apart": 0}
        for game in (TWINS, *twin_games(1104, 100)):
            groups = classes(game)
            for u in range(len(game)):
                for v in range(len(game)):
                    answer = any(u in group and v in group for group in groups)
                    self.assertIs(alike(game, u, v), answer)
                    thing = judge_alike(game, u, v)
                    self.assertEqual(thing[0], "alike" if answer else "apart")
                    self.assertTrue(is_right(game, u, v, thing), (game, u, v, thing))
                    self.assertIs(alike_holds(game, u, v, thing), True, (game, u, v, thing))
                    if not answer:
                        self.assertLessEqual(len(thing[1]), 21)
                    kinds[thing[0]] += 1
        self.assertTrue(min(kinds.values()) > 300, kinds)

    def test_rows_are_at_most_21(self):
        chance = random.Random(1105)
        most = 0
        for _ in range(60):
            game = twin_game(chance, 7)
            for u in range(len(game)):
                thing = judge_alike(game, u, len(game) - 1)
                if thing[0] == "apart":
                    most = max(most, len(thing[1]))
        self.assertTrue(10 < most <= 21, most)

    def test_lesser_likenesses_hold_too(self):
        game = (("foe", 0, (0,), ()), ("foe", 0, (1,), ()), ("foe", 0, (2,), ()))
        for likeness in (((0, 1, 2),), ((0, 1), (2,))):
            self.assertIs(alike_holds(game, 0, 1, ("alike", likeness)), True)
            self.assertIs(alike_holds(game, 1, 0, ("alike", likeness)), True)
        self.assertIs(alike_holds(game, 0, 2, ("alike", ((0, 1), (2,)))), False)
        self.assertIs(alike_holds(game, 2, 2, ("alike", ((0, 1), (2,)))), True)
        self.assertIs(alike_holds(game, 0, 1, ("alike", ((0,), (1,), (2,)))), False)
        self.assertIs(alike_holds(game, 0, 1, ("alike", ((0, 1),))), False)

    def check(self, game, u, v, rows, answer):
        with self.subTest(u=u, v=v, rows=rows):
            self.assertIs(is_right(game, u, v, ("apart", rows)), answer)
            self.assertIs(alike_holds(game, u, v, ("apart", rows)), answer)

    def test_rows_about_moves(self):
        # 0 and 1 move to 2 and 3, 4 to 2 alone; 2 and 3 have unlike marks.
        game = (("foe", 0, (2, 3), ()), ("foe", 0, (3,), ()), ("foe", 1, (2,), ()), ("foe", 2, (3,), ()), ("foe", 0, (2,), ()))
        for a, b in ((2, 3), (3, 2)):
            marks = (a, b, "mark")
            self.check(game, 0, 1, (marks, (0, 1, ("move", 2))), True)
            self.check(game, 1, 0, (marks, (1, 0, ("move", 2))), True)
            self.check(game, 1, 4, (marks, (1, 4, ("move", 2))), True)
            self.check(game, 1, 4, (marks, (1, 4, ("move", 3))), True)
            # For 3, which 0 has, 1 has 3 itself.
            self.check(game, 0, 1, (marks, (0, 1, ("move", 3))), False)
            self.check(game, 0, 1, (marks, (1, 0, ("move", 2))), False)
            self.check(game, 0, 1, ((0, 1, ("move", 2)), marks), False)
            self.check(game, 0, 1, ((0, 1, ("move", 2)), marks, (0, 1, ("move", 2))), False)
            self.check(game, 0, 1, (marks, (0, 1, ("move", 4))), False)
            self.check(game, 0, 1, (marks, (0, 1, ("slip", 2))), False)
            self.check(game, 0, 1, (marks, marks, (0, 4, ("move", 3)), (1, 4, ("move", 2)), (0, 1, ("move", 2))), True)
        self.check(game, 0, 1, ((0, 1, ("move", 2)),), False)
        self.check(game, 2, 3, ((2, 3, "mark"),), True)
        self.check(game, 3, 2, ((2, 3, "mark"),), False)
        self.check(game, 2, 3, ((2, 3, "owner"),), False)
        self.check(game, 2, 3, ((2, 3, "mark"), (2, 3, "mark")), True)
        self.check(game, 2, 3, (), False)
        self.check(game, 0, 0, ((0, 0, ("move", 2)),), False)
        self.check(game, 0, 0, ((2, 3, "mark"), (0, 0, ("move", 2))), False)

    def test_rows_about_moves_ask_for_each_answer(self):
        game = (("foe", 0, (1,), ()), ("foe", 1, (1,), ()), ("foe", 0, (2, 3, 4), ()), ("foe", 3, (3,), ()), ("keeper", 1, (4,), ()))
        rows = ((1, 2, "mark"), (3, 1, "mark"), (1, 4, "owner"))
        self.check(game, 0, 2, (*rows, (0, 2, ("move", 1))), True)
        for at in range(3):
            self.check(game, 0, 2, (*rows[:at], *rows[at + 1:], (0, 2, ("move", 1))), False)
        # 0 moves to 1 alone, so one row is enough for a move of 2.
        self.check(game, 0, 2, ((3, 1, "mark"), (0, 2, ("move", 3))), True)
        self.check(game, 0, 2, ((1, 4, "owner"), (0, 2, ("move", 3))), False)

    def test_rows_about_slips(self):
        # All but 3 have the mark 0; 0 slips to 3 for 2, 1 to 4 for 1 and to 3 for 3, 2 to 4 for 3, and 4 has no slip.
        game = (("keeper", 0, (0,), ((3, 2),)), ("keeper", 0, (1,), ((3, 3), (4, 1))), ("keeper", 0, (2,), ((4, 3),)),
                ("keeper", 1, (3,), ()), ("keeper", 0, (4,), ()))
        mark = (3, 4, "mark")
        self.check(game, 0, 4, ((0, 4, ("slip", 3)),), True)
        self.check(game, 4, 0, ((4, 0, ("slip", 3)),), True)
        self.check(game, 4, 0, ((4, 0, ("slip", 4)),), False)
        # 2 has no slip of at most 2.
        self.check(game, 0, 2, ((0, 2, ("slip", 3)),), True)
        self.check(game, 0, 2, ((0, 2, ("slip", 4)),), False)
        self.check(game, 0, 2, (mark, (0, 2, ("slip", 4))), True)
        # 1 has one of at most 2, to 4.
        self.check(game, 0, 1, ((0, 1, ("slip", 3)),), False)
        self.check(game, 0, 1, (mark, (0, 1, ("slip", 3))), True)
        self.check(game, 1, 0, (mark, (1, 0, ("slip", 3))), True)
        # 0 has none of at most 1.
        self.check(game, 0, 1, ((0, 1, ("slip", 4)),), True)
        # 2 has one of just 3, and 1 has one of at most 3 to the very same place.
        self.check(game, 1, 2, ((1, 2, ("slip", 3)),), False)
        self.check(game, 1, 2, (mark, (1, 2, ("slip", 3))), True)
        self.check(game, 1, 2, (mark, (2, 1, ("slip", 4)), (1, 2, ("slip", 4))), True)
        self.check(game, 2, 1, (mark, (2, 1, ("slip", 0))), False)
        self.check(game, 0, 1, (mark, (0, 1, ("move", 3))), False)

    def test_bools_and_lists_at_each_depth(self):
        game = (("keeper", 0, (0, 1), ((1, 1),)), ("keeper", 1, (1,), ()), ("keeper", 0, (0,), ((1, 2),)), ("keeper", 1, (1,), ()))
        for u, v in ((0, 1), (0, 2), (2, 0), (1, 3)):
            thing = judge_alike(game, u, v)
            self.assertIs(alike_holds(game, u, v, thing), True)
            for other in bent(thing):
                with self.subTest(u=u, v=v, other=other):
                    self.assertIs(alike_holds(game, u, v, other), False)

    def test_each_change_is_judged_rightly(self):
        chance = random.Random(1106)
        answers = {True: 0, False: 0}
        for game in twin_games(1106, 100, many=4):
            u, v = chance.randrange(len(game)), chance.randrange(len(game))
            thing = judge_alike(game, u, v)
            every = list(changed(thing))
            others = chance.sample(every, min(len(every), 40))
            if thing[0] == "apart":
                rows = thing[1]
                others += [("apart", tuple(chance.sample(rows, len(rows)))) for _ in range(4)]
                for at, (a, b, _) in enumerate(rows):
                    for reason in ("owner", "mark", ("move", chance.randrange(len(game))), ("slip", chance.randrange(len(game)))):
                        others.append(replaced(thing, (1, at), (a, b, reason)))
                        others.append(replaced(thing, (1, at), (b, a, reason)))
            else:
                others += [("alike", ordered(groups)) for groups in partitions(list(range(len(game))))]
            for other in others:
                answer = is_right(game, u, v, other)
                self.assertIs(alike_holds(game, u, v, other), answer, (game, u, v, other))
                answers[answer] += 1
        self.assertTrue(min(answers.values()) > 100, answers)

    def test_any_value_is_answered(self):
        for thing in (*JUNK, ("alike",), ("apart",), ("alike", ()), ("apart", ()), ("apart", (None,)), ("apart", ((),)),
                      ("apart", ((0, 2, []),)), ("apart", ((0, 2, ("move", [])),)), ("apart", ((0, 2, ("mark", 0)),)),
                      ("apart", ((0, 2),)), ("apart", ((0, 2, "mark", ()),)), ("apart", ((0, 7, "mark"),))):
            with self.subTest(thing=thing):
                self.assertIs(alike_holds(TWINS, 0, 2, thing), False)
        self.assertIs(alike_holds(TWINS, 0, 2, ("apart", ((0, 2, "mark"),))), True)


class ArgumentsTest(ErrorsCase):
    CALLS = {classes: 0, quotient: 0, is_likeness: 1, alike: 2, judge_alike: 2, alike_holds: 3}

    def test_bad_game_comes_first(self):
        for game in (*JUNK, list(TWINS), TWINS[0], TWINS[:4], (("foe", 0, (0,), ((0, 1),)),)):
            for call, more in self.CALLS.items():
                self.assert_raised("BadGame", game, call, game, *[-1] * more)

    def test_bad_place_tells_the_first_one(self):
        for thing in (None, -1, 7, 10 ** 39, True, False, "0", (0,), [0], {}, "any", Stranger()):
            for call, more in ((alike, ()), (judge_alike, ()), (alike_holds, (None,))):
                self.assert_raised("BadPlace", thing, call, TWINS, thing, 0, *more)
                self.assert_raised("BadPlace", thing, call, TWINS, 6, thing, *more)
                self.assert_raised("BadPlace", thing, call, TWINS, thing, -9, *more)

    def test_arguments_by_name(self):
        self.assertIs(is_likeness(thing=TWIN_CLASSES, game=TWINS), True)
        self.assertEqual([classes(game=TWINS), quotient(game=TWINS)], [classes(TWINS), quotient(TWINS)])
        self.assertEqual([alike(v=3, u=2, game=TWINS), alike(v=5, u=2, game=TWINS)], [True, False])
        self.assertIs(alike_holds(thing=judge_alike(v=5, u=2, game=TWINS), v=5, u=2, game=TWINS), True)

    def test_nothing_is_changed(self):
        thing = ["apart", [[0, 2, "mark"]]]
        before = copy.deepcopy(thing)
        alike_holds(TWINS, 0, 2, thing)
        is_likeness(TWINS, thing)
        self.assertEqual(thing, before)
        self.assertEqual(judge_alike(TWINS, 2, 6), judge_alike(TWINS, 2, 6))


if __name__ == "__main__":
    unittest.main()
