"""The examples of the document, word for word."""

import pathlib
import unittest

GAMES = r'''
>>> from howmanyslips.games import game_text, is_game, places, read_game
>>> GAME = (("keeper", 2, (0,), ((1, 1),)), ("keeper", 1, (0, 2), ((2, 2),)), ("foe", 1, (2,), ()))
>>> [places(GAME), game_text(GAME), read_game(game_text(GAME)) == GAME, is_game((("foe", 0, (0,), ((0, 1),)),)), is_game((("keeper", 0, (), ()),))]
[3, 'keeper 2 to 0 slip 1:1\nkeeper 1 to 0 2 slip 2:2\nfoe 1 to 2', True, False, False]
>>> from howmanyslips.games import read_game
>>> read_game("foe 1 to 0\nkeeper 0 to 2")
raises BadText(at=2)
'''

PLAYS = r'''
>>> from howmanyslips.plays import is_lasso, lasso_weight, path_weight, winner
>>> GAME = (("keeper", 2, (0,), ((1, 1),)), ("keeper", 1, (0, 2), ((2, 2),)), ("foe", 1, (2,), ()))
>>> LOST, KEPT = (((0, "slip"), (1, "slip")), ((2, "move"),)), ((), ((0, "slip"), (1, "move")))
>>> [winner(GAME, LOST), lasso_weight(GAME, LOST), winner(GAME, KEPT), lasso_weight(GAME, KEPT), path_weight(GAME, (((0, "slip"),), 1)), is_lasso(GAME, ((), ((0, "slip"),)))]
['foe', 3, 'keeper', 'endless', 1, False]
'''

# The order of the headings in the document.
EXAMPLES = {"games": GAMES, "plays": PLAYS}

DOCUMENT = pathlib.Path(__file__).resolve().parents[2] / "shared" / "DOC.md"


def shown(row, names):
    """What the document writes below a row, None if it writes nothing there."""
    try:
        result = eval(compile(row, "example", "eval"), names)
    except SyntaxError:
        exec(row, names)
        return None
    except Exception as error:
        told = ", ".join(f"{name}={value!r}" for name, value in vars(error).items())
        return f"raises {type(error).__name__}({told})"
    return None if result is None else repr(result)


class ExamplesTest(unittest.TestCase):
    def test_each_example_gives_what_the_document_shows(self):
        for heading, text in EXAMPLES.items():
            names = {}
            rows = text.strip().split("\n")
            for at, row in enumerate(rows):
                if not row.startswith(">>> "):
                    continue
                below = rows[at + 1] if at + 1 < len(rows) else ">>> "
                with self.subTest(heading=heading, row=row):
                    self.assertEqual(shown(row[4:], names), None if below.startswith(">>> ") else below)

    def test_the_examples_are_those_of_the_document(self):
        if not DOCUMENT.exists():
            self.skipTest("the document is not beside this checkout")
        document = DOCUMENT.read_text()
        for heading, text in EXAMPLES.items():
            with self.subTest(heading=heading):
                section = document.split(f"## howmanyslips/{heading}.py")[1].split("\n## ")[0].split("\n# ")[0]
                rows = section.replace("```\n", "").split("Examples:\n")[1].strip()
                self.assertEqual(text.strip().split("\n"), rows.split("\n"))


if __name__ == "__main__":
    unittest.main()
