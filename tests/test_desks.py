"""[13.1] and [13.2]: desks, their deeds and their texts."""

import copy
import itertools
import random
import unittest

from howmanyslips.desks import Desk, read_desk
from howmanyslips.games import game_text
from howmanyslips.numbers import numbers
from tests import second
from tests.helpers import JUNK, ErrorsCase, Stranger, TimedCase, changed, raised, small_games
from tests.test_numbers import NO_NUMBERS

GAME = (
    ("keeper", 0, (0, 1), ((1, 3), (3, 9))), ("keeper", 0, (1,), ((3, 2),)), ("foe", 0, (0, 2), ()),
    ("keeper", 1, (3,), ()),
)
TEXT = "keeper 0 to 0 1 slip 1:3 3:9\nkeeper 0 to 1 slip 3:2\nfoe 0 to 0 2\nkeeper 1 to 3\ndeeds"

# One deed of each kind, each of which is possible after those before it.
DEEDS = (
    ("promise", 0, 5), ("slip", 0, 3, 5), ("slip", 1, 0, 1), ("firm", 0, 1), ("move", 2, 3), ("close", 2, 0),
    ("mark", 2, 3), ("promise", 1, 2), ("free", 0), ("promise", 1, 0),
)

KINDS = ("slip", "firm", "move", "close", "mark", "promise", "free")


class Model:
    """A desk once more: rows of the game as lists, sets and dicts, promises as a dict, and all states in a list."""

    def __init__(self, game):
        self.rows = [[owner, mark, set(moves), dict(slips)] for owner, mark, moves, slips in game]
        self.promises = {}

    def can(self, deed):
        """Whether a deed of the right form is possible."""
        kind, v, *rest = deed
        owner, mark, moves, slips = self.rows[v]
        if kind == "slip":
            return owner == "keeper" and slips.get(rest[0]) != rest[1]
        if kind == "firm":
            return rest[0] in slips
        if kind == "move":
            return rest[0] not in moves
        if kind == "close":
            return rest[0] in moves and moves != {rest[0]}
        if kind == "mark":
            return mark != rest[0]
        return kind == "promise" or v in self.promises

    def do(self, deed):
        kind, v, *rest = deed
        row = self.rows[v]
        if kind == "slip":
            row[3][rest[0]] = rest[1]
        elif kind == "firm":
            del row[3][rest[0]]
        elif kind == "move":
            row[2].add(rest[0])
        elif kind == "close":
            row[2].remove(rest[0])
        elif kind == "mark":
            row[1] = rest[0]
        elif kind == "promise":
            self.promises[v] = rest[0]
        else:
            del self.promises[v]

    def game(self):
        return tuple((owner, mark, tuple(sorted(moves)), tuple(sorted(slips.items())))
                     for owner, mark, moves, slips in self.rows)

    def broken(self):
        """The places that have less than what is promised."""
        told = second.numbers(self.game())
        return [v for v, number in sorted(self.promises.items()) if second.rank(told[v]) < second.rank(number)]


def all_deeds(many):
    """All values of the form of a deed of a game with so many places, with some numbers."""
    found = []
    for v in range(many):
        found.append(("free", v))
        found += [("mark", v, mark) for mark in range(4)]
        found += [("promise", v, number) for number in (0, 1, 2, 4, "any", "ever")]
        for u in range(many):
            found += [(kind, v, u) for kind in ("firm", "move", "close")]
            found += [("slip", v, u, weight) for weight in (1, 2, 3)]
    return found


def is_form(many, thing):
    """Whether the thing has the form of a deed."""
    def is_place(part):
        return type(part) is int and 0 <= part < many

    if type(thing) is not tuple or len(thing) < 2 or type(thing[0]) is not str or not is_place(thing[1]):
        return False
    kind, rest = thing[0], thing[2:]
    if kind == "slip":
        return len(rest) == 2 and is_place(rest[0]) and type(rest[1]) is int and rest[1] > 0
    if kind == "free":
        return rest == ()
    if kind not in KINDS or len(rest) != 1:
        return False
    if kind == "promise" and type(rest[0]) is str:
        return rest[0] in ("any", "ever")
    if kind in ("promise", "mark"):
        return type(rest[0]) is int and rest[0] >= 0
    return is_place(rest[0])


def told(desk):
    """All that a desk tells of its state, what can be redone aside."""
    return desk.game(), desk.numbers(), desk.promises(), desk.deeds(), desk.text()


def done(game, deeds):
    """A new desk after deeds."""
    desk = Desk(game)
    for deed in deeds:
        desk.do(deed)
    return desk


def chance_desk(chance, game, times=10):
    """A desk after some deeds, some of which are undone."""
    desk = Desk(game)
    deeds = all_deeds(len(game))
    for _ in range(times):
        try:
            desk.do(chance.choice(deeds))
        except Exception as error:
            assert type(error).__name__ in ("BadDeed", "BrokenPromise")
    for _ in range(chance.randint(0, len(desk.deeds()))):
        desk.undo()
    return desk


class DesksTest(ErrorsCase):
    def test_a_new_desk(self):
        desk = Desk(GAME)
        self.assertEqual(told(desk), (GAME, (5, 2, 5, 0), (), (), TEXT))

    def test_a_place_alone(self):
        desk = Desk((("foe", 2, (0,), ()),))
        self.assertEqual(told(desk), ((("foe", 2, (0,), ()),), ("ever",), (), (), "foe 2 to 0\ndeeds"))
        for deed in (("move", 0, 0), ("close", 0, 0), ("slip", 0, 0, 1), ("firm", 0, 0), ("mark", 0, 2), ("free", 0)):
            self.assert_raised("BadDeed", deed, desk.do, deed)
        desk.do(("mark", 0, 7))
        self.assertEqual(desk.numbers(), (0,))

    def test_each_kind_of_deed(self):
        desk = Desk(GAME)
        for at, deed in enumerate(DEEDS):
            self.assertIsNone(desk.do(deed))
            self.assertEqual(desk.deeds(), DEEDS[:at + 1])
        self.assertEqual(desk.game(), (
            ("keeper", 0, (0, 1), ((3, 5),)), ("keeper", 0, (1,), ((0, 1), (3, 2))), ("foe", 3, (2, 3), ()),
            ("keeper", 1, (3,), ())))
        self.assertEqual([desk.numbers(), desk.promises()], [(5, 2, 0, 0), ((1, 0),)])
        self.assertEqual(desk.text(), TEXT + "\npromise 0 5\nslip 0 3 5\nslip 1 0 1\nfirm 0 1\nmove 2 3\nclose 2 0\n"
                         "mark 2 3\npromise 1 2\nfree 0\npromise 1 0")

    def test_slips_in_place_of_others(self):
        desk = Desk(GAME)
        for deed, slips in {
            ("slip", 0, 1, 4): ((1, 4), (3, 9)), ("slip", 0, 0, 2): ((0, 2), (1, 4), (3, 9)),
            ("slip", 0, 2, 10 ** 39): ((0, 2), (1, 4), (2, 10 ** 39), (3, 9)), ("firm", 0, 1): ((0, 2), (2, 10 ** 39), (3, 9)),
        }.items():
            desk.do(deed)
            self.assertEqual(desk.game()[0], ("keeper", 0, (0, 1), slips))

    def test_what_the_document_says_is_possible(self):
        possible = (
            (("slip", 0, 1, 2), True), (("slip", 0, 1, 3), False), (("slip", 0, 0, 3), True), (("slip", 2, 0, 1), False),
            (("slip", 3, 3, 1), True), (("slip", 0, 1, 0), False), (("slip", 0, 4, 1), False), (("slip", 0, 1, True), False),
            (("firm", 0, 1), True), (("firm", 0, 0), False), (("firm", 2, 0), False), (("firm", 1, 1), False), (("firm", 0, True), False),
            (("move", 0, 2), True), (("move", 0, 0), False), (("move", 2, 3), True), (("move", 2, 2), False), (("move", 2, 4), False),
            (("close", 0, 1), True), (("close", 0, 2), False), (("close", 1, 1), False), (("close", 2, 0), True), (("close", 1, 0), False),
            (("mark", 0, 1), True), (("mark", 0, 0), False), (("mark", 3, 1), False), (("mark", 3, 0), True), (("mark", 0, -1), False),
            (("mark", 2, 10 ** 39), True), (("promise", 0, 5), True), (("promise", 0, 0), True), (("promise", 0, -1), False),
            (("promise", 4, 0), False), (("promise", 0, "Any"), False), (("free", 0), False), (("free", 1), True), (("free", 4), False),
            (("promise", 1, 2), True), (("promise", 1, 1), True), (("free", 1, 2), False), (("free",), False),
        )
        desk = done(GAME, [("promise", 1, 1)])
        for deed, answer in possible:
            with self.subTest(deed=deed):
                other = desk.copied()
                if answer:
                    self.assertIsNone(other.do(deed))
                    self.assertEqual(other.deeds(), (("promise", 1, 1), deed))
                else:
                    self.assert_raised("BadDeed", deed, other.do, deed)
                    self.assertEqual(other, desk)

    def test_values_that_are_no_deeds(self):
        things = [*JUNK, list(DEEDS[0]), DEEDS, "firm", "firm 0 1", ("Firm", 0, 1), ("", 0, 1), (None, 0, 1),
                  (["firm"], 0, 1), ({}, 0), ((), 0, 1), (0, 0, 1), (True, 0, 1), (Stranger(), 0, 1), ("firm", Stranger(), 1)]
        for kind in KINDS:
            things += [(kind,), (kind, 0, 1, 4, 0), (kind, None, 1), (kind, "0", 1), (kind, [0], 1), (kind, 0, [1]),
                       (kind, False, 1), (kind, 0, None), (kind, 0, {}), (kind, -1, 1), (kind, 0, -1), (kind, 4, 1), (kind, (0, 1))]
        things += [("slip", 0, 1), ("slip", 0, (1, 2)), ("slip", (0, 1), 2), ("slip", 0, 1, "2"), ("slip", 0, 1, None)]
        things += [("promise", 0, number) for number in NO_NUMBERS] + [("promise", 0, 5, 5), ("promise", 0)]
        desk = Desk(GAME)
        for thing in things:
            with self.subTest(thing=thing):
                self.assert_raised("BadDeed", thing, desk.do, thing)
        self.assertEqual(desk, Desk(GAME))

    def test_each_change_of_a_deed_is_judged_rightly(self):
        answers = {True: 0, False: 0}
        desk = done(GAME, [("promise", 0, 0)])
        model = Model(GAME)
        model.do(("promise", 0, 0))
        for deed in [*DEEDS, ("promise", 0, "any"), ("slip", 3, 0, 9)]:
            for thing in changed(deed):
                answer = is_form(4, thing) and model.can(thing)
                other = desk.copied()
                name = "None"
                try:
                    other.do(thing)
                except Exception as error:
                    name = type(error).__name__
                self.assertEqual(name == "BadDeed", not answer, thing)
                self.assertIn(name, ("None", "BadDeed", "BrokenPromise"))
                answers[answer] += 1
        self.assertTrue(min(answers.values()) > 30, answers)

    def test_desks_by_chance(self):
        chance = random.Random(1301)
        met = {}
        for game in small_games(1301, 400, many=4):
            desk, states, at = Desk(game), [(Model(game), ())], 0
            deeds = all_deeds(len(game))
            for _ in range(25):
                kind = chance.choice(("do", "do", "do", "undo", "redo"))
                if kind == "do":
                    what = chance.choice((*KINDS, "promise", "promise", "slip", "move"))
                    deed = chance.choice([deed for deed in deeds if deed[0] == what])
                    if what == "promise" and chance.random() < 0.7:
                        # Just what the place has, so that many a deed after it breaks the promise.
                        deed = (what, deed[1], numbers(desk.game())[deed[1]])
                    model = copy.deepcopy(states[at][0])
                    answer = "BadDeed"
                    if model.can(deed):
                        model.do(deed)
                        broken = model.broken()
                        answer = f"BrokenPromise {broken[0]}" if broken else "done"
                    if answer == "done":
                        self.assertIsNone(desk.do(deed))
                        states = [*states[:at + 1], (model, (*states[at][1], deed))]
                        at += 1
                    elif answer == "BadDeed":
                        self.assert_raised("BadDeed", deed, desk.do, deed)
                    else:
                        self.assertEqual(raised(desk.do, deed), ("BrokenPromise", {"v": broken[0]}), (game, deed))
                    met[deed[0], answer[:4]] = met.get((deed[0], answer[:4]), 0) + 1
                else:
                    end = 0 if kind == "undo" else len(states) - 1
                    if at == end:
                        self.assertEqual(raised(getattr(desk, kind)), ("NothingToUndo" if kind == "undo" else "NothingToRedo", {}))
                    else:
                        self.assertIsNone(getattr(desk, kind)())
                        at += -1 if kind == "undo" else 1
                model, past = states[at]
                self.assertEqual(repr(desk.game()), repr(model.game()))
                self.assertEqual(repr(desk.promises()), repr(tuple(sorted(model.promises.items()))))
                self.assertEqual(repr(desk.deeds()), repr(past))
            self.assertEqual(desk.numbers(), second.numbers(desk.game()))
        for kind in KINDS:
            self.assertGreater(met[kind, "done"], 20, met)
        for kind in ("slip", "move", "close", "mark", "promise"):
            self.assertGreater(met[kind, "Brok"], 5, met)


class PromisesTest(ErrorsCase):
    def test_a_promise_has_to_be_kept_at_once(self):
        desk = Desk(GAME)
        for v, number in ((0, 6), (0, "any"), (0, 10 ** 39), (1, 3), (2, 6), (3, 1), (3, "ever")):
            self.assertEqual(raised(desk.do, ("promise", v, number)), ("BrokenPromise", {"v": v}))
        self.assertEqual(desk, Desk(GAME))
        for v, number in ((0, 5), (1, 2), (2, 3), (3, 0), (0, 4), (0, 4), (0, 5)):
            desk.do(("promise", v, number))
        self.assertEqual(desk.promises(), ((0, 5), (1, 2), (2, 3), (3, 0)))
        self.assertEqual(len(desk.deeds()), 7)

    def test_promises_are_ascending_by_places(self):
        desk = Desk(GAME)
        for v in (3, 1, 0, 2):
            desk.do(("promise", v, 0))
        self.assertEqual(desk.promises(), ((0, 0), (1, 0), (2, 0), (3, 0)))
        desk.do(("free", 1))
        self.assertEqual(desk.promises(), ((0, 0), (2, 0), (3, 0)))

    def test_the_least_place_is_told(self):
        # Whatever slips from 2 for 1 makes 0, 1 and 2 less.
        game = (("keeper", 0, (1,), ()), ("keeper", 0, (2,), ()), ("keeper", 0, (2,), ((3, 4),)), ("foe", 1, (3,), ()))
        for places, least in (((2, 1, 0), 0), ((2, 1), 1), ((2,), 2), ((1, 2), 1), ((0, 3), 0)):
            desk = done(game, [("promise", v, 0 if v == 3 else 4) for v in places])
            before = told(desk)
            for deed in (("slip", 2, 3, 1), ("slip", 2, 3, 3), ("mark", 2, 1)):
                self.assertEqual(raised(desk.do, deed), ("BrokenPromise", {"v": least}))
                self.assertEqual(told(desk), before)
        desk = done(game, [("promise", 0, 4), ("promise", 1, 3)])
        self.assertEqual(raised(desk.do, ("slip", 2, 3, 3)), ("BrokenPromise", {"v": 0}))
        desk.do(("promise", 0, 3))
        self.assertIsNone(desk.do(("slip", 2, 3, 3)))

    def test_promises_after_the_deed_count(self):
        desk = done(GAME, [("promise", 0, 5)])
        desk.do(("promise", 0, 1))
        desk.do(("slip", 0, 3, 1))
        self.assertEqual(desk.numbers()[0], 1)
        self.assertEqual(raised(desk.do, ("promise", 0, 2)), ("BrokenPromise", {"v": 0}))
        desk.do(("free", 0))
        desk.do(("mark", 0, 1))
        desk.do(("close", 0, 1))
        self.assertEqual(desk.numbers()[0], 0)

    def test_bad_deeds_come_before_broken_promises(self):
        desk = done(GAME, [("promise", 0, 5), ("promise", 2, 0)])
        for deed in (("slip", 2, 3, 1), ("mark", 0, 0), ("close", 1, 1), ("move", 3, 3), ("promise", 4, "ever"), ("promise", 0, -1)):
            self.assert_raised("BadDeed", deed, desk.do, deed)

    def test_undoing_and_redoing_break_no_promise(self):
        # Only without its slips 0 has "ever", and only then this is promised.
        deeds = [("firm", 0, 1), ("firm", 0, 3), ("promise", 0, "ever"), ("free", 0), ("slip", 0, 3, 1)]
        desk = done(GAME, deeds)
        for promises, number in (((), "ever"), (((0, "ever"),), "ever"), ((), "ever"), ((), 9), ((), 5)):
            desk.undo()
            self.assertEqual([desk.promises(), desk.numbers()[0]], [promises, number])
        self.assertEqual(desk.deeds(), ())
        for promises, number in (((), 9), ((), "ever"), (((0, "ever"),), "ever"), ((), "ever"), ((), 1)):
            desk.redo()
            self.assertEqual([desk.promises(), desk.numbers()[0]], [promises, number])
        self.assertEqual(desk, done(GAME, deeds))


class UndoTest(ErrorsCase):
    def test_nothing_to_undo_or_redo(self):
        desk = Desk(GAME)
        self.assertEqual([raised(desk.undo), raised(desk.redo)], [("NothingToUndo", {}), ("NothingToRedo", {})])
        desk.do(DEEDS[0])
        self.assertEqual(raised(desk.redo), ("NothingToRedo", {}))
        self.assertIsNone(desk.undo())
        self.assertEqual(raised(desk.undo), ("NothingToUndo", {}))
        self.assertIsNone(desk.redo())
        self.assertEqual(raised(desk.redo), ("NothingToRedo", {}))
        self.assertEqual(desk, done(GAME, DEEDS[:1]))

    def test_undo_and_redo_go_through_all_states(self):
        desk, states = Desk(GAME), [told(Desk(GAME))]
        for deed in DEEDS:
            desk.do(deed)
            states.append(told(desk))
        for state in states[-2::-1]:
            desk.undo()
            self.assertEqual(told(desk), state)
        for state in states[1:]:
            desk.redo()
            self.assertEqual(told(desk), state)
        self.assertEqual(len(set(states)), len(states))

    def test_do_discards_what_could_be_redone(self):
        desk = done(GAME, DEEDS[:4])
        desk.undo()
        desk.undo()
        desk.do(("move", 0, 2))
        self.assertEqual(raised(desk.redo), ("NothingToRedo", {}))
        self.assertEqual(desk, done(GAME, [*DEEDS[:2], ("move", 0, 2)]))
        # The very deed that could be redone discards the others, too.
        desk = done(GAME, DEEDS[:4])
        for _ in range(3):
            desk.undo()
        desk.do(DEEDS[1])
        self.assertEqual(raised(desk.redo), ("NothingToRedo", {}))

    def test_a_deed_that_is_not_done_discards_nothing(self):
        desk = done(GAME, DEEDS[:4])
        desk.undo()
        before = desk.copied()
        for deed in (("move", 0, 0), ("promise", 0, "ever"), None, ("mark", 0, 1), ("slip", 0, 3, 1)):
            self.assertIn(raised(desk.do, deed)[0], ("BadDeed", "BrokenPromise"))
            self.assertEqual(desk, before)
        desk.redo()
        self.assertEqual(desk, done(GAME, DEEDS[:4]))


class EqualityTest(unittest.TestCase):
    def test_equal_desks(self):
        self.assertEqual(Desk(GAME), Desk(copy.deepcopy(GAME)))
        self.assertEqual(done(GAME, DEEDS), done(GAME, DEEDS))
        self.assertFalse(done(GAME, DEEDS) != done(GAME, DEEDS))

    def test_first_games_count(self):
        there = done(GAME, [("mark", 2, 2)]).game()
        self.assertNotEqual(Desk(GAME), Desk(there))
        self.assertNotEqual(done(GAME, [("mark", 2, 2)]), Desk(there))
        # The same deeds, and the same game in the end.
        self.assertNotEqual(done(GAME, [("mark", 2, 4)]), done(there, [("mark", 2, 4)]))
        self.assertEqual(done(GAME, [("mark", 2, 4)]).game(), done(there, [("mark", 2, 4)]).game())

    def test_deeds_count(self):
        one, other = ("promise", 0, 0), ("promise", 1, 0)
        self.assertNotEqual(done(GAME, [one, other]), done(GAME, [other, one]))
        self.assertNotEqual(done(GAME, [one, ("free", 0)]), Desk(GAME))
        self.assertNotEqual(done(GAME, [one, one]), done(GAME, [one]))

    def test_what_can_be_redone_counts(self):
        def undone(deeds, many):
            desk = done(GAME, deeds)
            for _ in range(many):
                desk.undo()
            return desk

        every = [undone(DEEDS[:many], back) for many in range(4) for back in range(many + 1)]
        every.append(undone([*DEEDS[:2], ("move", 2, 3)], 1))
        every.append(undone([DEEDS[0], ("move", 2, 3), DEEDS[1]], 2))
        every.append(undone([DEEDS[0], DEEDS[1], ("move", 2, 3)], 2))
        for (at, one), (to, other) in itertools.product(enumerate(every), repeat=2):
            self.assertIs(one == other, at == to)
            self.assertIs(one != other, at != to)

    def test_no_value_of_another_type_is_equal(self):
        desk = Desk(GAME)
        for other in (*JUNK, GAME, TEXT, desk.deeds(), told(desk), [desk], (desk,), Stranger(), Desk):
            self.assertIs(desk == other, False)
            self.assertIs(other == desk, False)
            self.assertIs(desk != other, True)

    def test_copied(self):
        chance = random.Random(1302)
        for game in small_games(1302, 100):
            desk = chance_desk(chance, game)
            other = desk.copied()
            self.assertIsNot(other, desk)
            self.assertIs(type(other), Desk)
            self.assertEqual(other, desk)
            before, states = told(desk), []
            # All that can be undone and redone is the same.
            for one in (desk, other):
                way = [told(one)]
                while one.deeds():
                    one.undo()
                    way.append(told(one))
                try:
                    while True:
                        one.redo()
                        way.append(told(one))
                except Exception as error:
                    self.assertEqual(type(error).__name__, "NothingToRedo")
                states.append(way)
            self.assertEqual(*states)
            self.assertEqual(other, desk)
            # The copy goes its own way.
            third, kept = desk.copied(), told(desk)
            third.do(("promise", 0, 0))
            self.assertNotEqual(third, desk)
            self.assertEqual(told(desk), kept)
            self.assertIn(before, states[0])


class TextsTest(unittest.TestCase):
    def test_texts(self):
        self.assertEqual(read_desk(TEXT), Desk(GAME))
        self.assertEqual(read_desk(done(GAME, DEEDS).text()), done(GAME, DEEDS))
        desk = read_desk("keeper 0 to 0\ndeeds\nslip 0 0 7\npromise 0 ever\npromise 0 any\nmark 0 2\nfirm 0 0\nfree 0")
        self.assertEqual(told(desk)[:3], ((("keeper", 2, (0,), ()),), ("ever",), ()))
        self.assertEqual(len(desk.deeds()), 6)

    def test_the_text_is_of_the_first_game_and_what_is_not_undone(self):
        desk = done(GAME, DEEDS)
        for many in range(len(DEEDS) - 1, -1, -1):
            desk.undo()
            self.assertEqual(desk.text(), done(GAME, DEEDS[:many]).text())
            self.assertEqual(read_desk(desk.text()), done(GAME, DEEDS[:many]))
        self.assertEqual(desk.text(), TEXT)
        self.assertNotEqual(read_desk(desk.text()), desk)

    def test_texts_by_chance(self):
        chance = random.Random(1303)
        for game in small_games(1303, 100):
            desk = chance_desk(chance, game)
            lines = [game_text(game), "deeds"] + [" ".join(map(str, deed)) for deed in desk.deeds()]
            self.assertEqual(desk.text(), "\n".join(lines))
            self.assertEqual(read_desk(desk.text()), done(game, desk.deeds()))

    def assert_bad(self, text, at):
        with self.subTest(text=text):
            self.assertEqual(raised(read_desk, text), ("BadText", {"at": at}))

    def test_values_that_are_no_strings(self):
        for thing in (*JUNK, Desk(GAME), GAME, [TEXT], (TEXT,), DEEDS):
            if not isinstance(thing, str):
                self.assert_bad(thing, 0)

    def test_lines_before_the_line_deeds(self):
        self.assert_bad("deeds", 1)
        self.assert_bad("deeds\nfree 0", 1)
        self.assert_bad("deeds\ndeeds", 1)
        self.assert_bad("\ndeeds", 1)
        self.assert_bad("foe 0 to 0\n\ndeeds", 2)
        self.assert_bad("foe 0 to 1\ndeeds", 1)
        self.assert_bad("foe 0 to 0\nfoe 0 to 2\ndeeds", 2)
        self.assert_bad("foe 0 to 0\nfoe 0 to 1 slip 0:1\ndeeds\nmark 0 1", 2)
        self.assert_bad("foe 00 to 0\ndeeds", 1)
        self.assert_bad("keeper 0 to 0 slip\ndeeds", 1)
        # As many places as there are lines before: the line of the deeds counts not.
        self.assert_bad("foe 0 to 0\nfoe 0 to 2\ndeeds\nmark 0 1", 2)
        self.assertEqual(read_desk("foe 0 to 1\nfoe 0 to 0\ndeeds"), Desk((("foe", 0, (1,), ()), ("foe", 0, (0,), ()))))

    def test_without_a_line_deeds(self):
        self.assert_bad("foe 0 to 0", 2)
        self.assert_bad("foe 0 to 0\nfoe 0 to 1", 3)
        self.assert_bad("", 1)
        self.assert_bad("\n", 1)
        self.assert_bad("foe 0 to 0\n", 2)
        self.assert_bad("foe 0 to 0\ndeed", 2)
        self.assert_bad("foe 0 to 0\n deeds", 2)
        self.assert_bad("foe 0 to 0\ndeeds ", 2)
        self.assert_bad("foe 0 to 0\nDeeds", 2)
        self.assert_bad("foe 0 to 2\nfoe 0 to 2\nmark 0 1", 3)
        self.assert_bad("foe 0 to 0 deeds", 1)
        self.assert_bad(TEXT.removesuffix("\ndeeds"), 5)

    def test_lines_that_text_does_not_write(self):
        bad = (
            "", " ", "deeds", "undo", "mark", "mark 0", "mark 0 3 ", " mark 0 3", "mark  0 3", "mark 0  3", "mark 0 03", "mark 00 3",
            "mark 0 +3", "mark 0 -3", "mark 0 3 3", "mark 0 three", "Mark 0 3", "mark 0 True", "mark 0 None", "mark None 3",
            "mark 0 any", "mark any 3", "mark 0\t3", "mark 0 3.0", "mark 0 '3'", "('mark', 0, 3)", "mark 4 3", "mark -1 3", "mark 0 0",
            "slip 0 0", "slip 0 0 0", "slip 0 0 01", "slip 0 0:1", "slip 0 1 3", "slip 2 0 1", "slip 0 4 1", "slip 0 0 any",
            "firm 0 0", "firm 0", "firm 0 1 3", "move 0 0", "move 0 4", "close 0 2", "close 1 1", "promise 0", "promise 0 'any'",
            "promise 0 Any", "promise 0 any ", "promise 0 05", "promise 0 -1", "promise 0 6", "promise 0 any", "promise 0 ever",
            "promise any 0", "promise 4 0", "promise 0 None", "free 0", "free", "free 0 0", "mark 0 3\r",
        )
        for line in bad:
            self.assert_bad(f"{TEXT}\n{line}", 6)
            self.assert_bad(f"{TEXT}\nmark 2 4\n{line}\nmark 2 5", 7)
            self.assert_bad(f"{TEXT}\n{line}\n{line}", 6)

    def test_lines_that_are_refused_or_not_possible_after_those_before(self):
        self.assert_bad(f"{TEXT}\npromise 0 5\nmark 0 1", 7)
        self.assert_bad(f"{TEXT}\npromise 0 5\nfree 0\nfree 0", 8)
        self.assert_bad(f"{TEXT}\nfree 0\npromise 0 5", 6)
        self.assert_bad(f"{TEXT}\nmark 0 2\nmark 0 2", 7)
        self.assert_bad(f"{TEXT}\nmove 2 1\nclose 2 0\nclose 2 1\nclose 2 2", 9)
        self.assert_bad(f"{TEXT}\nfirm 0 1\nfirm 0 1", 7)
        # A number that is promised already may be promised once more.
        self.assertEqual(len(read_desk(f"{TEXT}\npromise 0 5\npromise 0 5").deeds()), 2)

    def test_lines_left_out_twice_or_exchanged(self):
        lines = done(GAME, DEEDS).text().split("\n")
        for at in range(len(lines)):
            self.compare(lines[:at] + lines[at + 1:])
            self.compare(lines[:at] + [lines[at]] + lines[at:])
            if at:
                self.compare(lines[:at - 1] + [lines[at], lines[at - 1]] + lines[at + 1:])
            for other in ("", " " + lines[at], lines[at] + " ", lines[at].replace(" ", "  ", 1), lines[at].replace("0", "00", 1)):
                self.compare(lines[:at] + [other] + lines[at + 1:])

    def test_texts_that_are_changed_by_chance(self):
        chance = random.Random(1304)
        good = 0
        for game in small_games(1304, 60, many=3):
            text = chance_desk(chance, game).text()
            for _ in range(25):
                at = chance.randrange(len(text) + 1)
                put = chance.choice(("", " ", "\n", "0", "1", "any", ":", "deeds", "\ndeeds\n", "-", "x"))
                good += self.compare((text[:at] + put + text[at + chance.randint(0, 2):]).split("\n"))
        self.assertGreater(good, 50)

    def compare(self, lines):
        """Whether the lines are a text, after a look at what is told of them."""
        at = self.first_wrong(lines)
        if at is None:
            self.assertEqual(read_desk("\n".join(lines)).text(), "\n".join(lines))
        else:
            self.assert_bad("\n".join(lines), at)
        return at is None

    def first_wrong(self, lines):
        """The number of the first wrong line, None if there is none."""
        head = lines.index("deeds") if "deeds" in lines else len(lines)
        if head == 0:
            return 1
        rows, many = [], head
        for at, line in enumerate(lines[:head], start=1):
            row = self.row_of(line, many)
            if row is None:
                return at
            rows.append(row)
        if head == len(lines):
            return head + 1
        model = Model(tuple(rows))
        for at, line in enumerate(lines[head + 1:], start=head + 2):
            deed = tuple(int(word) if word.isdecimal() else word for word in line.split(" "))
            if " ".join(map(str, deed)) != line or not is_form(many, deed) or not model.can(deed):
                return at
            model.do(deed)
            if model.broken():
                return at
        return None

    def row_of(self, line, many):
        """The place with a line, by the words of [1.2]."""
        words = line.split(" ")
        if len(words) < 4 or words[0] not in ("keeper", "foe") or words[2] != "to":
            return None
        cut = words.index("slip") if "slip" in words else len(words)
        moves, slips = words[3:cut], [word.split(":") for word in words[cut + 1:]]
        if cut < len(words) and (not slips or words[0] == "foe") or any(len(slip) != 2 for slip in slips) or not moves:
            return None
        every = [words[1], *moves, *itertools.chain(*slips)]
        if any(not word.isdecimal() or str(int(word)) != word for word in every):
            return None
        moves, slips = [int(word) for word in moves], [(int(u), int(w)) for u, w in slips]
        goals = [u for u, _ in slips]
        if moves != sorted(set(moves)) or goals != sorted(set(goals)) or max(moves + goals) >= many:
            return None
        return None if any(w == 0 for _, w in slips) else (words[0], int(words[1]), tuple(moves), tuple(slips))


class ArgumentsTest(ErrorsCase):
    def test_bad_game(self):
        for game in (*JUNK, Desk(GAME), list(GAME), GAME[0], GAME[:2], (("foe", 0, (0,), ((0, 1),)),)):
            self.assert_raised("BadGame", game, Desk, game)

    def test_arguments_by_name(self):
        desk = Desk(game=GAME)
        self.assertIsNone(desk.do(deed=("mark", 0, 2)))
        self.assertEqual(read_desk(text=desk.text()), desk)

    def test_nothing_is_changed(self):
        desk = Desk(GAME)
        thing = ["promise", 0, ["any"]]
        before = copy.deepcopy(thing)
        self.assert_raised("BadDeed", thing, desk.do, thing)
        self.assertEqual(thing, before)
        for _ in range(2):
            self.assertEqual(told(desk), (GAME, (5, 2, 5, 0), (), (), TEXT))

    def test_great_integers(self):
        desk = done(GAME, [("mark", 2, 10 ** 39), ("slip", 1, 3, 10 ** 39), ("promise", 1, 10 ** 39)])
        self.assertEqual([desk.numbers()[1], read_desk(desk.text())], [10 ** 39, desk])


class TimeTest(TimedCase):
    def test_many_deeds(self):
        desk = Desk(GAME)
        desk.do(("promise", 0, 1))
        for at in range(200):
            self.assert_soon(desk.do, ("mark", 2, at + 1))
        self.assertEqual(self.assert_soon(read_desk, desk.text()), desk)
        self.assertEqual(numbers(desk.game()), desk.numbers())


if __name__ == "__main__":
    unittest.main()
