"""[9.1] to [9.3]: lots of slips, how few of them are enough, and costly slips."""

import copy
import itertools
import random
import unittest

from howmanyslips.firm import all_slips, costly, fewest_firm, firm_holds, judge_firm, without_slips
from howmanyslips.numbers import judge_game, numbers
from tests import second
from tests.helpers import JUNK, ErrorsCase, Stranger, bent, changed, ladder_game, small_game, small_games
from tests.test_certificates import tweaked
from tests.test_numbers import NO_NUMBERS

# Place 4 is lost; 0 slips to it directly for 3, or by way of 1 or of 2, each for 2 together.
NET = (
    ("keeper", 0, (0,), ((1, 1), (2, 1), (4, 3))), ("keeper", 0, (1,), ((4, 1),)), ("keeper", 0, (2,), ((4, 1),)),
    ("foe", 2, (0, 3), ()), ("keeper", 1, (4,), ()),
)
NET_SLIPS = ((0, 1), (0, 2), (0, 4), (1, 4), (2, 4))

BAD_LOTS = {
    "in reverse": ((0, 2), (0, 1)), "in reverse by places": ((1, 4), (0, 4)), "twice": ((0, 1), (0, 1)),
    "a slip that there is not": ((0, 3),), "from a place of the foe": ((3, 0),), "a place too far": ((0, 5),),
    "from a place too far": ((5, 0),), "a place below 0": ((-1, 4),), "a goal below 0": ((0, -1),),
    "a bool": ((0, True),), "a bool for a place": ((False, 1),), "with its weight": ((0, 1, 1),), "a place alone": ((0,),),
    "a slip alone": (0, 1), "a list": [(0, 1)], "an empty list": [], "a list for a slip": ([0, 1],),
    "one that is right and one that is not": ((0, 1), (0, 3)), "None": None, "None among slips": ((0, 1), None),
    "a string": "01", "strings": (("0", "1"),), "a dict": {(0, 1): 1}, "a stranger": ((0, Stranger()),),
    "tuples for places": (((0,), (1,)),), "one too many": (*NET_SLIPS, (4, 4)),
}

KINDS = (0, 1, 2, 3, 4, 7, 10 ** 39, "any", "ever")


def lots(game):
    """All lots of a game, those with few slips first."""
    slips = [(place, goal) for place, row in enumerate(game) for goal, _ in row[3]]
    for many in range(len(slips) + 1):
        yield from itertools.combinations(slips, many)


def bare(game, lot):
    """The game without the lot."""
    return tuple((owner, mark, moves, tuple(pair for pair in slips if (place, pair[0]) not in lot))
                 for place, (owner, mark, moves, slips) in enumerate(game))


def firm_games(seed, times):
    """Small games with at most 5 slips."""
    chance = random.Random(seed)
    games = []
    while len(games) < times:
        for game in (small_game(chance, 5, 3, 3, slips=5), ladder_game(chance, 4)):
            if sum(len(row[3]) for row in game) <= 5:
                games.append(game)
    return games


def is_right(game, v, number, thing):
    """The words of [9.2] once more."""
    def tells(lot, paper, enough):
        if second.broken(bare(game, lot), paper):
            return False
        return (second.rank(paper[1][v]) >= second.rank(number)) is enough

    if type(thing) is not tuple or not thing or type(thing[0]) is not str:
        return False
    every = list(lots(game))
    if thing[0] == "never":
        return len(thing) == 2 and tells(every[-1], thing[1], False)
    if thing[0] != "firm" or len(thing) != 4:
        return False
    _, lot, paper, papers = thing
    # As texts, a list is no tuple and a bool no integer.
    if repr(lot) not in map(repr, every) or not tells(lot, paper, True) or type(papers) is not tuple:
        return False
    lesser = sorted(other for other in every if len(other) == len(lot) - 1)
    return len(papers) == len(lesser) and all(tells(other, part, False) for other, part in zip(lesser, papers))


class LotsTest(unittest.TestCase):
    def test_all_slips(self):
        self.assertEqual(all_slips(NET), NET_SLIPS)
        self.assertEqual(all_slips((("foe", 0, (0,), ()),)), ())
        self.assertEqual(all_slips((("keeper", 0, (0,), ((0, 7),)),)), ((0, 0),))
        for game in small_games(901, 100, many=6):
            self.assertEqual(repr(all_slips(game)), repr(list(lots(game))[-1]))

    def test_without_slips(self):
        self.assertEqual(without_slips(NET, ()), NET)
        self.assertEqual(without_slips(NET, ((0, 2), (1, 4))), (
            ("keeper", 0, (0,), ((1, 1), (4, 3))), ("keeper", 0, (1,), ()), ("keeper", 0, (2,), ((4, 1),)), *NET[3:]))
        self.assertEqual([row[3] for row in without_slips(NET, NET_SLIPS)], [()] * 5)
        for game in firm_games(902, 60):
            for lot in lots(game):
                self.assertEqual(repr(without_slips(game, lot)), repr(bare(game, lot)))

    def test_without_slips_no_number_is_less(self):
        rises = 0
        for game in firm_games(903, 60):
            told = numbers(game)
            for lot in lots(game):
                left = numbers(without_slips(game, lot))
                for before, after in zip(told, left):
                    self.assertLessEqual(second.rank(before), second.rank(after), (game, lot))
                    rises += before != after
            self.assertTrue(set(numbers(without_slips(game, all_slips(game)))) <= {0, "ever"}, game)
        self.assertGreater(rises, 100)


class CostlyTest(unittest.TestCase):
    def test_each_slip_alone(self):
        # 0 has 2 by way of 1 and by way of 2, so neither of these slips of 0 is costly by itself, nor is that to 4.
        self.assertEqual(numbers(NET), (2, 1, 1, 2, 0))
        self.assertEqual(costly(NET), ((1, 4), (2, 4)))
        self.assertEqual(costly(without_slips(NET, ((0, 1),))), ((0, 2), (1, 4), (2, 4)))
        self.assertEqual(costly(without_slips(NET, ((0, 1), (0, 2)))), ((0, 4), (1, 4), (2, 4)))

    def test_games_without_slips(self):
        self.assertEqual([costly((("keeper", mark, (0,), ()),)) for mark in (0, 1)], [(), ()])
        self.assertEqual(costly((("keeper", 0, (0,), ((0, 1),)),)), ())

    def test_slips_that_are_heavier_count_as_well(self):
        game = (("keeper", 0, (0,), ((1, 3), (2, 4))), ("foe", 1, (1,), ()), ("foe", 1, (2,), ()))
        self.assertEqual(costly(game), ((0, 1),))
        game = (("keeper", 0, (0,), ((1, 4), (2, 4))), ("foe", 1, (1,), ()), ("foe", 1, (2,), ()))
        self.assertEqual(costly(game), ())

    def test_costly_by_a_second_way(self):
        many = {True: 0, False: 0}
        for game in (*firm_games(904, 150), *small_games(905, 60)):
            told = second.numbers(game)
            every = [lot for lot in lots(game) if len(lot) == 1]
            found = tuple(lot[0] for lot in every if second.numbers(bare(game, lot)) != told)
            self.assertEqual(repr(costly(game)), repr(found), game)
            many[True] += len(found)
            many[False] += len(every) - len(found)
        self.assertTrue(min(many.values()) > 50, many)


class EnoughTest(unittest.TestCase):
    def test_fewest_firm(self):
        pairs = (((0, 1), (0, 2)), ((0, 1), (2, 4)), ((0, 2), (1, 4)), ((1, 4), (2, 4)))
        threes = tuple(pair for pair in itertools.combinations(NET_SLIPS, 3)
                       if (0, 4) in pair and any(set(two) < set(pair) for two in pairs))
        for v, number, told in (
                (0, 0, ((),)), (0, 2, ((),)), (0, 3, pairs), (0, 4, threes), (0, "any", threes), (1, 1, ((),)),
                (1, 2, (((1, 4),),)), (1, "any", (((1, 4),),)), (1, "ever", (((1, 4),),)), (1, 10 ** 39, (((1, 4),),)),
                (4, 0, ((),)), (4, 1, (None,)), (4, "any", (None,)), (4, "ever", (None,))):
            with self.subTest(v=v, number=number):
                self.assertIn(fewest_firm(NET, v, number), told)

    def test_games_without_slips(self):
        game = (("keeper", 0, (0,), ()), ("foe", 1, (1,), ()))
        for number in KINDS:
            self.assertEqual(fewest_firm(game, 0, number), ())
            self.assertEqual(fewest_firm(game, 1, number), () if number == 0 else None)
            self.assertEqual(judge_firm(game, 0, number), ("firm", (), judge_game(game), ()))
            self.assertEqual(judge_firm(game, 1, number)[0], "firm" if number == 0 else "never")

    def test_against_all_lots(self):
        met = {}
        for game in firm_games(906, 60):
            told = {lot: second.numbers(bare(game, lot)) for lot in lots(game)}
            for v in range(len(game)):
                for number in KINDS:
                    enough = [lot for lot in told if second.rank(told[lot][v]) >= second.rank(number)]
                    lot = fewest_firm(game, v, number)
                    thing = judge_firm(game, v, number)
                    if enough:
                        self.assertIn(repr(lot), [repr(other) for other in enough if len(other) == len(enough[0])])
                        self.assertEqual(thing[0], "firm")
                        self.assertEqual(len(thing[1]), len(lot))
                    else:
                        self.assertIsNone(lot)
                        self.assertEqual(thing[0], "never")
                    self.assertTrue(is_right(game, v, number, thing), (game, v, number))
                    self.assertIs(firm_holds(game, v, number, thing), True, (game, v, number))
                    met[lot if lot is None else len(lot)] = met.get(lot if lot is None else len(lot), 0) + 1
        self.assertTrue(min(met[many] for many in (None, 0, 1, 2)) > 10, met)


class CertificatesTest(unittest.TestCase):
    def firm(self, lot, lesser):
        """What would be a certificate with this lot, and papers for these other lots."""
        papers = tuple(judge_game(bare(NET, other)) for other in lesser)
        return "firm", lot, judge_game(bare(NET, lot)), papers

    def test_lots_of_certificates_need_not_be_the_ones_returned(self):
        ones = [(slip,) for slip in NET_SLIPS]
        for lot in itertools.combinations(NET_SLIPS, 2):
            told = numbers(bare(NET, lot))[0]
            for number in (2, 3, 4, "any"):
                with self.subTest(lot=lot, number=number):
                    answer = told not in (0, 1, 2) and number == 3
                    self.assertIs(firm_holds(NET, 0, number, self.firm(lot, ones)), answer)
                    self.assertIs(is_right(NET, 0, number, self.firm(lot, ones)), answer)

    def test_there_is_a_paper_for_each_lesser_lot_in_order(self):
        lot, ones = ((0, 1), (0, 2)), [(slip,) for slip in NET_SLIPS]
        right = self.firm(lot, ones)
        self.assertIs(firm_holds(NET, 0, 3, right), True)
        for name, lesser in {
            "none": [], "those of the lot": [(slip,) for slip in lot], "one left out": ones[:-1], "one twice": ones + ones[-1:],
            "the first left out": ones[1:], "in reverse": ones[::-1], "two exchanged": [ones[1], ones[0], *ones[2:]],
            "(), too": [(), *ones], "with two slips": list(itertools.combinations(NET_SLIPS, 2))[:5],
        }.items():
            with self.subTest(name=name):
                self.assertIs(firm_holds(NET, 0, 3, self.firm(lot, lesser)), False)
        # The paper of the last lot but one in the place of the last one.
        self.assertIs(firm_holds(NET, 0, 3, right[:3] + (right[3][:4] + (right[3][3],),)), False)

    def test_lots_that_are_not_least_or_not_enough(self):
        pairs, threes = [list(itertools.combinations(NET_SLIPS, many)) for many in (2, 3)]
        self.assertIs(firm_holds(NET, 0, 3, self.firm(((0, 1), (0, 2), (0, 4)), pairs)), False)
        self.assertIs(firm_holds(NET, 0, "ever", self.firm(((0, 1), (0, 2), (0, 4)), pairs)), True)
        self.assertIs(firm_holds(NET, 0, "any", self.firm(((0, 1), (0, 2), (0, 4)), pairs)), True)
        self.assertIs(firm_holds(NET, 0, 10 ** 39, self.firm(((0, 1), (0, 2), (0, 4)), pairs)), True)
        self.assertIs(firm_holds(NET, 0, "any", self.firm(((0, 1), (0, 2), (1, 4)), pairs)), False)
        self.assertIs(firm_holds(NET, 0, "any", self.firm(NET_SLIPS[:4], threes)), False)
        self.assertIs(firm_holds(NET, 0, 2, self.firm((), [])), True)
        self.assertIs(firm_holds(NET, 0, 3, self.firm((), [])), False)
        self.assertIs(firm_holds(NET, 0, 2, self.firm(((0, 1),), [()])), False)
        self.assertIs(firm_holds(NET, 0, 0, self.firm((), [()])), False)

    def test_never(self):
        paper = judge_game(bare(NET, NET_SLIPS))
        for number in KINDS[1:]:
            self.assertIs(firm_holds(NET, 4, number, ("never", paper)), True)
            self.assertIs(firm_holds(NET, 0, number, ("never", paper)), False)
            self.assertIs(firm_holds(NET, 4, number, ("never", judge_game(NET))), False)
            self.assertIs(firm_holds(NET, 4, number, ("never", paper, ())), False)
            self.assertIs(firm_holds(NET, 4, number, ("firm", NET_SLIPS, paper, ())), False)
        self.assertIs(firm_holds(NET, 4, 0, ("never", paper)), False)

    def test_bools_and_lists_at_each_depth(self):
        game = (("keeper", 0, (0,), ((0, 1), (1, 1))), ("keeper", 1, (1,), ()))
        for v, number in ((0, "ever"), (0, 2), (0, 1), (1, 1)):
            for thing in bent(judge_firm(game, v, number)):
                with self.subTest(v=v, number=number, thing=thing):
                    self.assertIs(firm_holds(game, v, number, thing), False)

    def test_each_change_is_judged_rightly(self):
        chance = random.Random(907)
        answers = {True: 0, False: 0}
        for game in firm_games(907, 60):
            v, number = chance.randrange(len(game)), chance.choice(KINDS)
            thing = judge_firm(game, v, number)
            every = list(changed(thing))
            others = chance.sample(every, min(len(every), 30))
            for _ in range(10):
                others.append(self.turned(chance, game, thing))
            for other in others:
                answer = is_right(game, v, number, other)
                self.assertIs(firm_holds(game, v, number, other), answer, (game, v, number, other))
                answers[answer] += 1
        self.assertTrue(min(answers.values()) > 20, answers)

    def turned(self, chance, game, thing):
        """The certificate with another lot, or a paper changed."""
        every = list(lots(game))
        if thing[0] == "never":
            return "never", tweaked(chance, bare(game, every[-1]), thing[1])
        _, lot, paper, papers = thing
        if chance.random() < 0.4:
            lot = chance.choice([other for other in every if len(other) in (len(lot), len(lot) + 1)])
            lesser = [other for other in every if len(other) == len(lot) - 1]
            return "firm", lot, judge_game(bare(game, lot)), tuple(judge_game(bare(game, other)) for other in lesser)
        if chance.random() < 0.5 or not papers:
            return "firm", lot, tweaked(chance, bare(game, lot), paper), papers
        at = chance.randrange(len(papers))
        other = [other for other in every if len(other) == len(lot) - 1][at]
        return "firm", lot, paper, papers[:at] + (tweaked(chance, bare(game, other), papers[at]),) + papers[at + 1:]

    def test_any_value_is_answered(self):
        for number in KINDS:
            for thing in (*JUNK, ("firm",), ("never",), judge_game(NET), ("firm", (), judge_game(NET)), NET, NET_SLIPS):
                self.assertIs(firm_holds(NET, 0, number, thing), False)


class ArgumentsTest(ErrorsCase):
    def test_bad_game_comes_first(self):
        for game in (*JUNK, list(NET), NET[0], NET[:4], (("foe", 0, (0,), ((0, 1),)),)):
            for call, more in {all_slips: 0, costly: 0, without_slips: 1, fewest_firm: 2, judge_firm: 2, firm_holds: 3}.items():
                for thing in (None, -1):
                    self.assert_raised("BadGame", game, call, game, *[thing] * more)

    def test_bad_lot(self):
        for name, lot in (*BAD_LOTS.items(), *enumerate(JUNK)):
            if lot != () and lot != ((0, 1),):
                with self.subTest(name=name):
                    self.assert_raised("BadLot", lot, without_slips, NET, lot)
                    self.assertIs(firm_holds(NET, 0, 0, ("firm", lot, judge_game(NET), ())), False)

    def test_each_change_of_a_lot_is_judged_rightly(self):
        every = list(map(repr, lots(NET)))
        answers = {True: 0, False: 0}
        for lot in itertools.combinations(NET_SLIPS, 3):
            for thing in changed(lot):
                answer = repr(thing) in every
                if answer:
                    self.assertEqual(without_slips(NET, thing), bare(NET, thing))
                else:
                    self.assert_raised("BadLot", thing, without_slips, NET, thing)
                answers[answer] += 1
        self.assertTrue(min(answers.values()) >= 30, answers)

    def test_bad_place_then_bad_number(self):
        for call, more in ((fewest_firm, ()), (judge_firm, ()), (firm_holds, (None,))):
            for v in (None, -1, 5, 10 ** 39, True, False, "0", (0,), [0], {}, "any", Stranger()):
                for number in (0, None, -1):
                    self.assert_raised("BadPlace", v, call, NET, v, number, *more)
            for number in NO_NUMBERS:
                self.assert_raised("BadNumber", number, call, NET, 0, number, *more)

    def test_arguments_by_name(self):
        self.assertEqual([all_slips(game=NET), costly(game=NET)], [NET_SLIPS, ((1, 4), (2, 4))])
        self.assertEqual(without_slips(lot=NET_SLIPS[:1], game=NET), bare(NET, NET_SLIPS[:1]))
        self.assertEqual(fewest_firm(number="ever", v=1, game=NET), ((1, 4),))
        thing = judge_firm(number=3, v=0, game=NET)
        self.assertIs(firm_holds(thing=thing, number=3, v=0, game=NET), True)

    def test_nothing_is_changed(self):
        lot, thing = [[0, 1]], ["firm", [[0, 1]], list(judge_game(NET)), []]
        before = copy.deepcopy((lot, thing))
        self.assert_raised("BadLot", lot, without_slips, NET, lot)
        firm_holds(NET, 0, 1, thing)
        self.assertEqual((lot, thing), before)
        self.assertEqual(judge_firm(NET, 0, 3), judge_firm(NET, 0, 3))


if __name__ == "__main__":
    unittest.main()
