"""[0.3] over the whole program: wrong arguments of every function, one by one and several at once."""

import copy
import importlib
import unittest

from howmanyslips.advice import blame
from howmanyslips.controllers import judge_controller, weak_play
from howmanyslips.desks import Desk, read_desk
from howmanyslips.duels import best_attack
from howmanyslips.firm import judge_firm
from howmanyslips.likeness import classes, judge_alike
from howmanyslips.numbers import best_plan, judge_game
from howmanyslips.plans import weak_lasso
from tests.helpers import GAME, ErrorsCase, Stranger, raised
from tests.test_language import INTERFACE, METHODS_OF_DESK

PLAN, ATTACK = best_plan(GAME), best_attack(GAME)
ROOMS = ((PLAN, (0, 1, 0)), ((0, 2, None), (0, 0, 1)))
LASSO, PATH = ((), ((0, "slip"), (1, "move"))), (((0, "slip"),), 1)

# What is raised for a value that is not of the kind; a thing is answered by False.
ERRORS = {
    "game": "BadGame", "text": "BadText", "lasso": "BadLasso", "path": "BadPath", "plan": "BadPlan", "place": "BadPlace",
    "v": "BadPlace", "u": "BadPlace", "number": "BadNumber", "one": "BadNumber", "other": "BadNumber", "k": "BadBudget",
    "budget": "BadBudget", "attack": "BadAttack", "controller": "BadController", "lot": "BadLot", "bad": "BadPlaces",
    "aims": "BadPlaces", "inside": "BadPlaces",
}

RIGHT = {
    "game": GAME, "lasso": LASSO, "path": PATH, "plan": PLAN, "place": 0, "v": 0, "u": 1, "number": 2, "one": 0, "other": "any",
    "k": 2, "budget": 1, "attack": ATTACK, "controller": ROOMS, "lot": ((0, 1),), "bad": (1,), "aims": (0, 2), "inside": (0, 1),
}

TEXTS = {"read_game": "foe 1 to 0", "read_desk": "foe 1 to 0\ndeeds\nmark 0 2"}

THINGS = {
    "is_game": GAME, "is_lasso": LASSO, "is_path": PATH, "is_plan": PLAN, "weak_holds": weak_lasso(GAME, PLAN, 0),
    "is_number": 3, "game_holds": judge_game(GAME), "is_attack": ATTACK, "is_controller": ROOMS,
    "controller_holds": judge_controller(GAME, ROOMS), "is_weak_play": weak_play(GAME, ROOMS, 0),
    "firm_holds": judge_firm(GAME, 0, 2), "is_likeness": classes(GAME), "alike_holds": judge_alike(GAME, 1, 0),
}


def functions():
    """Each function of the interface with its name and right arguments by their names."""
    for module, listed in INTERFACE.items():
        for name, parameters in listed.items():
            right = {**RIGHT, "text": TEXTS.get(name), "thing": THINGS.get(name)}
            if name == "alike_holds":
                right = {**right, "u": 1, "v": 0}
            yield name, getattr(importlib.import_module(f"howmanyslips.{module}"), name), {
                parameter: right[parameter] for parameter in parameters}


def strangers(right):
    """A desk, lists and bools, and some more that can be in no argument's place."""
    yield from (Desk(GAME), [], [right], [0], True, False, None, {}, Stranger(), -1, ("deeds",), [Desk(GAME)])
    if isinstance(right, tuple):
        yield from (list(right), right + (Desk(GAME),), right + ([],), right + (True,), (right,))
        for at in range(len(right)):
            for other in (Desk(GAME), [right[at]], [], Stranger()):
                yield right[:at] + (other,) + right[at + 1:]


class EachArgumentTest(ErrorsCase):
    def test_right_arguments(self):
        for name, call, right in functions():
            with self.subTest(name=name):
                result = call(*right.values())
                self.assertEqual(call(**right), result)
                if "thing" in right:
                    self.assertIs(result, True)

    def test_a_wrong_value_in_the_place_of_each_argument(self):
        for name, call, right in functions():
            for parameter in right:
                for other in strangers(right[parameter]):
                    with self.subTest(name=name, parameter=parameter, other=other):
                        self.check(call, {**right, parameter: other}, parameter, other)

    def check(self, call, given, parameter, other):
        """What a call has to say to the other value as the parameter."""
        if parameter == "thing":
            self.assertIs(call(**given), False)
        elif parameter == "text":
            self.assertEqual(raised(call, **given), ("BadText", {"at": 0}))
        else:
            told, attributes = raised(call, **given)
            self.assertEqual((told, list(attributes)), (ERRORS[parameter], ["thing"]))
            self.assertIs(attributes["thing"], other)

    def test_the_first_of_several_wrong_values(self):
        for name, call, right in functions():
            parameters = [parameter for parameter in right if parameter != "thing"]
            for at, parameter in enumerate(parameters):
                for other in (Desk(GAME), [], True, None):
                    with self.subTest(name=name, parameter=parameter, other=other):
                        # All that come after it are wrong as well, a thing, too.
                        wrong = {later: [later] for later in list(right)[at + 1:]}
                        self.check(call, {**right, **wrong, parameter: other}, parameter, other)

    def test_by_position_as_by_name(self):
        for name, call, right in functions():
            for parameter in right:
                given = {**right, parameter: [parameter]}
                with self.subTest(name=name, parameter=parameter):
                    if parameter == "thing":
                        self.assertIs(call(*given.values()), False)
                    else:
                        self.assertEqual(raised(call, *given.values()), raised(call, **given))

    def test_nothing_that_is_passed_is_changed(self):
        desk = Desk(GAME)
        desk.do(("mark", 0, 4))
        for name, call, right in functions():
            for parameter in right:
                for other in ([desk, [1]], {"a": [desk]}, (desk, [desk]), list(right.values())):
                    given = {**right, parameter: other}
                    before = copy.deepcopy(given)
                    try:
                        call(**given)
                    except Exception as error:
                        self.assertIn("Bad", type(error).__name__)
                    self.assertEqual(given, before, (name, parameter))


class DeskMethodsTest(ErrorsCase):
    def test_do_takes_any_value(self):
        desk = Desk(GAME)
        for deed in (("slip", 0, 1, 4), ("firm", 0, 1), ("move", 0, 1), ("close", 1, 0), ("mark", 0, 1), ("promise", 0, 3), ("free", 0)):
            for other in strangers(deed):
                with self.subTest(deed=deed, other=other):
                    self.assert_raised("BadDeed", other, desk.do, other)
        self.assertEqual(desk, Desk(GAME))

    def test_methods_that_change_nothing(self):
        desk = read_desk("foe 1 to 0\ndeeds\nmark 0 2\npromise 0 ever")
        desk.undo()
        before = copy.deepcopy(desk)
        for name in METHODS_OF_DESK:
            if name not in ("do", "undo", "redo"):
                first, again = getattr(desk, name)(), getattr(desk, name)()
                self.assertEqual(first, again, name)
                self.assertEqual(desk, before, name)

    def test_what_is_returned_is_of_the_kinds_that_the_document_names(self):
        def is_plain(thing):
            if type(thing) is tuple:
                return all(map(is_plain, thing))
            return thing is None or type(thing) in (int, str, bool, Desk)

        for name, call, right in functions():
            self.assertTrue(is_plain(call(**right)), name)
        desk = Desk(GAME)
        for name in METHODS_OF_DESK:
            if name not in ("do", "undo", "redo"):
                self.assertTrue(is_plain(getattr(desk, name)()), name)

    def test_results_that_are_returned_can_be_passed_on(self):
        desk = Desk(GAME)
        self.assertEqual(Desk(desk.game()), desk)
        self.assertEqual(blame(desk.game(), PATH), ())


if __name__ == "__main__":
    unittest.main()
