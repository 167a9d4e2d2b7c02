"""The examples of the document, word for word."""

import pathlib
import unittest

GAMES = r'''
>>> from howmanyslips.games import game_text, is_game, places, read_game
>>> GAME = (("keeper", 2, (0,), ((1, 1),)), ("keeper", 1, (0, 2), ((2, 2),)), ("foe", 1, (2,), ()))
>>> [places(GAME), game_text(GAME), read_game(game_text(GAME)) == GAME, is_game((("foe", 0, (0,), ((0, 1),)),)), is_game((("keeper", 0, (), ()),))]
[3, 'keeper 2 to 0 slip 1:1\nkeeper 1 to 0 2 slip 2:2\nfoe 1 to 2', True, False, False]
>>> from howmanyslips.games import read_game
>>> read_game("foe 1 to 0\nkeeper 0 to 2")
raises BadText(at=2)
'''

PLAYS = r'''
>>> from howmanyslips.plays import is_lasso, lasso_weight, path_weight, winner
>>> GAME = (("keeper", 2, (0,), ((1, 1),)), ("keeper", 1, (0, 2), ((2, 2),)), ("foe", 1, (2,), ()))
>>> LOST, KEPT = (((0, "slip"), (1, "slip")), ((2, "move"),)), ((), ((0, "slip"), (1, "move")))
>>> [winner(GAME, LOST), lasso_weight(GAME, LOST), winner(GAME, KEPT), lasso_weight(GAME, KEPT), path_weight(GAME, (((0, "slip"),), 1)), is_lasso(GAME, ((), ((0, "slip"),)))]
['foe', 3, 'keeper', 'endless', 1, False]
'''

PLANS = r'''
>>> from howmanyslips.plans import weak_holds, weak_lasso, with_plan, worths
>>> GAME = (("keeper", 2, (0,), ((1, 1),)), ("keeper", 1, (0, 2), ((2, 2),)), ("foe", 1, (2,), ()))
>>> LOOPS, FIRM = (("keeper", 0, (0,), ((1, 1),)), ("keeper", 1, (0,), ())), (("keeper", 2, (0,), ((1, 1),)), ("keeper", 1, (0,), ()))
>>> [worths(GAME, (0, 0, None)), worths(GAME, (0, 2, None)), weak_holds(GAME, (0, 2, None), 0, (((0, "slip"), (1, "move")), ((2, "move"),))), worths(LOOPS, (0, 0)), worths(FIRM, (0, 0)), weak_lasso(FIRM, (0, 0), 0), with_plan(GAME, (0, 2, None))[1]]
[(3, 2, 0), (1, 0, 0), True, ('any', 'any'), ('ever', 'ever'), None, ('keeper', 1, (2,), ((2, 2),))]
'''

NUMBERS = r'''
>>> from howmanyslips.numbers import best_plan, is_less, judge_game, level, numbers
>>> GAME = (("keeper", 2, (0,), ((1, 1),)), ("keeper", 1, (0, 2), ((2, 2),)), ("foe", 1, (2,), ()))
>>> LOOPS, FIRM = (("keeper", 0, (0,), ((1, 1),)), ("keeper", 1, (0,), ())), (("keeper", 2, (0,), ((1, 1),)), ("keeper", 1, (0,), ()))
>>> [numbers(GAME), numbers(LOOPS), numbers(FIRM), best_plan(GAME), judge_game(GAME)[1], level(GAME, 2), is_less(9, "any"), is_less("ever", "any")]
[(3, 2, 0), ('any', 'any'), ('ever', 'ever'), (0, 0, None), (3, 2, 0), (1,), True, False]
>>> from howmanyslips.numbers import numbers
>>> EITHER = (("keeper", 1, (0, 1), ()), ("keeper", 0, (1,), ((2, 1),)), ("keeper", 1, (2,), ()))
>>> numbers(EITHER)
(1, 1, 0)
>>> from howmanyslips.numbers import game_holds
>>> game_holds(GAME, ("numbers", (3, 2, 0), ((0, (0,)), (0, (0,)), None), ((1, (0, 0)), (2, (0, 0)), (2, (0, 0)))))
True
'''

BUDGETS = r'''
>>> from howmanyslips.budgets import front, rigged, unrolled, wins_with
>>> from howmanyslips.numbers import numbers
>>> GAME = (("keeper", 2, (0,), ((1, 1),)), ("keeper", 1, (0, 2), ((2, 2),)), ("foe", 1, (2,), ()))
>>> LOOPS, FIRM = (("keeper", 0, (0,), ((1, 1),)), ("keeper", 1, (0,), ())), (("keeper", 2, (0,), ((1, 1),)), ("keeper", 1, (0,), ()))
>>> [wins_with(GAME, 0, 2), wins_with(GAME, 0, 3), front(GAME, 2, 0, 2), numbers(unrolled(GAME, 2))[12], numbers(unrolled(GAME, 3))[18], rigged(LOOPS)]
['keeper', 'foe', 12, 'ever', 0, (('foe', 0, (1, 2), ()), ('keeper', 0, (0,), ()), ('foe', 1, (3,), ()), ('keeper', 1, (0,), ()))]
'''

DUELS = r'''
>>> from howmanyslips.duels import duel, is_best_attack
>>> GAME = (("keeper", 2, (0,), ((1, 1),)), ("keeper", 1, (0, 2), ((2, 2),)), ("foe", 1, (2,), ()))
>>> [duel(GAME, (0, 0, None), (1, 2, 2), 0), duel(GAME, (0, 2, None), (1, None, 2), 0), is_best_attack(GAME, (1, 2, 2)), is_best_attack(GAME, (None, 2, 2))]
[(((0, 'slip'), (1, 'slip')), ((2, 'move'),)), (((0, 'slip'), (1, 'move')), ((2, 'move'),)), True, False]
'''

CONTROLLERS = r'''
>>> from howmanyslips.controllers import controller_resilience, is_controller, is_weak_play, product
>>> GAME = (('keeper', 0, (1, 2), ()), ('keeper', 0, (1,), ((3, 2),)), ('keeper', 0, (2,), ()), ('keeper', 1, (3,), ()))
>>> ROOM = ((1, 1, 2, 3), (0, 0, 0, 0))
>>> [is_controller(GAME, (ROOM,)), is_controller(GAME, (((1, 1, 2, None), (0, 0, 0, 0)),)), product(GAME, (ROOM,))[0], controller_resilience(GAME, (ROOM,))]
[True, False, ('keeper', 0, (1,), ()), (2, 2, 'ever', 0)]
>>> is_weak_play(GAME, (ROOM,), 0, (((0, 'move'), (1, 'slip')), ((3, 'move'),)))
True
'''

ADVICE = r'''
>>> from howmanyslips.advice import best_moves, blame, safe_moves, story
>>> GAME = (("keeper", 2, (0,), ((1, 1),)), ("keeper", 1, (0, 2), ((2, 2),)), ("foe", 1, (2,), ()))
>>> [best_moves(GAME, 1), safe_moves(GAME, 1), story(GAME, (((0, "slip"), (1, "move")), 0)), blame(GAME, (((0, "slip"), (1, "move")), 2)), blame(GAME, (((0, "slip"), (1, "slip")), 2))]
[(0,), (0,), (3, 2, 3), (1,), ()]
'''

FIRM = r'''
>>> from howmanyslips.firm import all_slips, costly, fewest_firm, judge_firm, without_slips
>>> GAME = (('keeper', 0, (1, 2), ()), ('keeper', 0, (1,), ((3, 2),)), ('keeper', 0, (2,), ()), ('keeper', 1, (3,), ()))
>>> [all_slips(GAME), without_slips(GAME, ((1, 3),))[1], costly(GAME), fewest_firm(GAME, 1, 3), fewest_firm(GAME, 1, 2), fewest_firm(GAME, 3, 1), judge_firm(GAME, 1, 'any')[:2], judge_firm(GAME, 3, 1)[0]]
[((1, 3),), ('keeper', 0, (1,), ()), ((1, 3),), ((1, 3),), (), None, ('firm', ((1, 3),)), 'never']
'''

GOALS = r'''
>>> from howmanyslips.goals import again_game, reach_game, safe_game, seldom_game
>>> GAME = (('keeper', 5, (0, 1), ((1, 4),)), ('foe', 4, (0, 1), ()))
>>> [safe_game(GAME, (1,)), reach_game(GAME, (1,)), again_game(GAME, (1,)), seldom_game(GAME, ())]
[(('keeper', 0, (0, 1), ((1, 4),)), ('foe', 1, (1,), ())), (('keeper', 1, (0, 1), ((1, 4),)), ('foe', 2, (1,), ())), (('keeper', 1, (0, 1), ((1, 4),)), ('foe', 2, (0, 1), ())), (('keeper', 0, (0, 1), ((1, 4),)), ('foe', 0, (0, 1), ()))]
'''

LIKENESS = r'''
>>> from howmanyslips.likeness import alike, alike_holds, classes, is_likeness, quotient
>>> GAME = (('keeper', 0, (1, 2), ()), ('foe', 1, (0,), ()), ('foe', 1, (0,), ()), ('foe', 1, (1,), ()))
>>> [classes(GAME), quotient(GAME), alike(GAME, 1, 2), is_likeness(GAME, ((0,), (1,), (2,), (3,))), is_likeness(GAME, ((0,), (1, 3), (2,)))]
[((0,), (1, 2), (3,)), (('keeper', 0, (1,), ()), ('foe', 1, (0,), ()), ('foe', 1, (1,), ())), True, True, False]
>>> [alike_holds(GAME, 1, 3, ('apart', ((0, 1, 'mark'), (1, 3, ('move', 0))))), alike_holds(GAME, 1, 3, ('apart', ((1, 3, ('move', 0)),))), alike_holds(GAME, 2, 1, ('alike', ((0,), (1, 2), (3,))))]
[True, False, True]
'''

STANDINS = r'''
>>> from howmanyslips.standins import chain, grafted, standin_for
>>> GAME = (('keeper', 0, (1, 2), ()), ('keeper', 0, (1,), ((3, 2),)), ('keeper', 0, (2,), ()), ('keeper', 1, (3,), ()))
>>> [chain(3), chain('any'), chain('ever')]
[(('keeper', 0, (0,), ((1, 3),)), ('keeper', 1, (1,), ())), (('keeper', 0, (0,), ((1, 1),)), ('keeper', 1, (0,), ())), (('keeper', 0, (0,), ()),)]
>>> [grafted(GAME, 1, 2)[:2], grafted(GAME, 1, 2)[4:], standin_for(GAME, (0,))]
[(('keeper', 0, (2, 4), ()), ('keeper', 0, (4,), ((3, 2),))), (('keeper', 0, (4,), ((5, 2),)), ('keeper', 1, (5,), ())), (('keeper', 0, (1, 3), ()), ('keeper', 0, (1,), ((2, 2),)), ('keeper', 1, (2,), ()), ('keeper', 0, (3,), ()))]
'''

DESKS = r'''
>>> from howmanyslips.desks import Desk
>>> GAME = (('keeper', 0, (1, 2), ()), ('keeper', 0, (1,), ((3, 2),)), ('keeper', 0, (2,), ()), ('keeper', 1, (3,), ()))
>>> desk = Desk(GAME)
>>> [desk.numbers(), desk.do(('promise', 0, 'any')), desk.do(('firm', 1, 3)), desk.numbers(), desk.undo(), desk.promises(), desk.deeds(), desk.numbers()]
[('ever', 2, 'ever', 0), None, None, ('ever', 'ever', 'ever', 0), None, ((0, 'any'),), (('promise', 0, 'any'),), ('ever', 2, 'ever', 0)]
>>> desk = Desk(GAME)
>>> desk.do(('promise', 0, 'any'))
>>> desk.do(('close', 0, 2))
raises BrokenPromise(v=0)
'''

# The order of the headings in the document.
EXAMPLES = {
    "games": GAMES, "plays": PLAYS, "plans": PLANS, "numbers": NUMBERS, "budgets": BUDGETS, "duels": DUELS,
    "controllers": CONTROLLERS, "advice": ADVICE, "firm": FIRM,
    "goals": GOALS, "likeness": LIKENESS, "standins": STANDINS, "desks": DESKS,
}

DOCUMENT = pathlib.Path(__file__).resolve().parents[2] / "shared" / "DOC.md"


def shown(row, names):
    """What the document writes below a row, None if it writes nothing there."""
    try:
        result = eval(compile(row, "example", "eval"), names)
    except SyntaxError:
        exec(row, names)
        return None
    except Exception as error:
        told = ", ".join(f"{name}={value!r}" for name, value in vars(error).items())
        return f"raises {type(error).__name__}({told})"
    return None if result is None else repr(result)


class ExamplesTest(unittest.TestCase):
    def test_each_example_gives_what_the_document_shows(self):
        for heading, text in EXAMPLES.items():
            names = {}
            rows = text.strip().split("\n")
            for at, row in enumerate(rows):
                if not row.startswith(">>> "):
                    continue
                below = rows[at + 1] if at + 1 < len(rows) else ">>> "
                with self.subTest(heading=heading, row=row):
                    self.assertEqual(shown(row[4:], names), None if below.startswith(">>> ") else below)

    def test_the_examples_are_those_of_the_document(self):
        if not DOCUMENT.exists():
            self.skipTest("the document is not beside this checkout")
        document = DOCUMENT.read_text()
        for heading, text in EXAMPLES.items():
            with self.subTest(heading=heading):
                section = document.split(f"## howmanyslips/{heading}.py")[1].split("\n## ")[0].split("\n# ")[0]
                rows = section.replace("```\n", "").split("Examples:\n")[1].strip()
                self.assertEqual(text.strip().split("\n"), rows.split("\n"))


if __name__ == "__main__":
    unittest.main()
