"""[1.2]: the texts of games."""

import random
import re
import unittest

from howmanyslips.games import game_text, is_game, read_game
from tests.helpers import GAME, JUNK, chance_games, raised

NUMBER = r"(?:0|[1-9][0-9]*)"
LINE = re.compile(rf"(keeper|foe) {NUMBER} to ({NUMBER}(?: {NUMBER})*)( slip {NUMBER}:{NUMBER}(?: {NUMBER}:{NUMBER})*)?")

# Each is the text of a game with one place, or would be, but for one fault.
WRONG_LINES = (
    "", " ", "foe", "foe 0", "foe 0 to", "foe 0 to ", "foe  0 to 0", "foe 0  to 0", "foe 0 to  0", " foe 0 to 0",
    "foe 0 to 0 ", "foe 0 To 0", "foe 0 0", "foe 0 slip 0", "Foe 0 to 0", "0 to 0", "to 0", "foe to 0", "foe 00 to 0",
    "foe 01 to 0", "foe 0 to 00", "foe -1 to 0", "foe +1 to 0", "foe -0 to 0", "foe 1_0 to 0", "foe 1.0 to 0",
    "foe x to 0", "foe True to 0", "foe 0 to 1", "foe 0 to -1", "foe 0 to 0 0", "foe 0 to 0,", "foe 0 to 0 to 0",
    "foe 0 to 0 slip 0:1", "foe 0 to 0 slip", "keeper 0 to 0 slip", "keeper 0 to 0 slip ", "keeper 0 to slip 0:1",
    "keeper 0 to 0 slip 0", "keeper 0 to 0 slip 0:", "keeper 0 to 0 slip :1", "keeper 0 to 0 slip :",
    "keeper 0 to 0 slip 0:0", "keeper 0 to 0 slip 0:01", "keeper 0 to 0 slip 00:1", "keeper 0 to 0 slip 0:-1",
    "keeper 0 to 0 slip 1:1", "keeper 0 to 0 slip 0:1:1", "keeper 0 to 0 slip 0: 1", "keeper 0 to 0 slip 0 1",
    "keeper 0 to 0 slip 0:1 0:2", "keeper 0 to 0 slip 0:1 slip 0:2", "keeper 0 to 0 slip 0:1 ", "keeper 0 to 0  slip 0:1",
    "keeper 0 to 0 slip  0:1", "keeper 0 to 0 0:1", "keeper 0 to 0 slip 0:1 0", "keeper 0 to 0 slip 0:1,",
    "keeper 0 to 0 slips 0:1", "(('foe', 0, (0,), ()),)", "slip", "keeper 0 slip 0:1 to 0", "foe\t0 to 0", "foe 0 to 0\r",
    "foe \u00b2 to 0", "foe \u0661 to 0", "foe 0 to \u0660", "foe\u00a00 to 0",
)


def wrong_line(text):
    """The number of the first line that is wrong, 0 if none is: the definition once more, by an expression."""
    lines = text.split("\n")
    for at, line in enumerate(lines, start=1):
        found = LINE.fullmatch(line)
        if not found or (found[1] == "foe" and found[3]):
            return at
        moves = [int(word) for word in found[2].split(" ")]
        pairs = [word.split(":") for word in (found[3] or " slip ").split(" ")[2:] if word]
        goals = [int(place) for place, _ in pairs]
        if moves != sorted(set(moves)) or goals != sorted(set(goals)) or "0" in [weight for _, weight in pairs]:
            return at
        if max(moves + goals) >= len(lines):
            return at
    return 0


class TextsTest(unittest.TestCase):
    def test_texts_of_games(self):
        texts = {
            "foe 0 to 0": (("foe", 0, (0,), ()),),
            "keeper 12 to 0": (("keeper", 12, (0,), ()),),
            "keeper 0 to 0 slip 0:10": (("keeper", 0, (0,), ((0, 10),)),),
            "keeper 0 to 0 1 slip 0:9 1:1\nfoe 3 to 0 1":
                (("keeper", 0, (0, 1), ((0, 9), (1, 1))), ("foe", 3, (0, 1), ())),
            "keeper 2 to 0 slip 1:1\nkeeper 1 to 0 2 slip 2:2\nfoe 1 to 2": GAME,
        }
        for text, game in texts.items():
            with self.subTest(text=text):
                self.assertEqual(game_text(game), text)
                self.assertEqual(repr(read_game(text)), repr(game))

    def test_each_text_is_read_as_its_game(self):
        great = tuple(("keeper", 10 ** 39, tuple(range(12)), ((11, 10 ** 39),)) for _ in range(12))
        for game in (great, *chance_games(3, 200)):
            self.assertEqual(repr(read_game(game_text(game))), repr(game))

    def test_two_figures(self):
        rows = [("foe", 10, (at,), ()) for at in range(11)]
        self.assertEqual(game_text(tuple(rows)).split("\n")[10], "foe 10 to 10")
        self.assertEqual(read_game(game_text(tuple(rows))), tuple(rows))

    def test_wrong_lines(self):
        for line in WRONG_LINES:
            with self.subTest(line=line):
                self.assertEqual(raised(read_game, line), ("BadText", {"at": 1}))
                self.assertEqual(raised(read_game, f"foe 0 to 0 1\n{line.replace('1', '2')}"), ("BadText", {"at": 2}))

    def test_the_first_wrong_line_is_told(self):
        cases = {
            "foe 0 to 2\nfoe 0 to 3\nfoe 0 to 9": 2,
            "foe 0 to 1\nfoe": 2,
            "foe 0 to 0\n": 2,
            "\nfoe 0 to 0": 1,
            "foe 0 to 0\n\nfoe 0 to 0": 2,
            "foe 0 to 0\n\n": 2,
            "\n\n": 1,
            "foe 0 to 1": 1,
            "foe 0 to 1\nfoe 0 to 2": 2,
            "foe 0 to 2\nkeeper 0 to 1 0": 1,
            "foe 1 to 0\nkeeper 0 to 2": 2,
            "foe 1 to 0\n" * 1000: 1001,
        }
        for text, at in cases.items():
            with self.subTest(text=text[:60]):
                self.assertEqual(raised(read_game, text), ("BadText", {"at": at}))

    def test_lines_left_out_and_doubled(self):
        lines = game_text(GAME).split("\n")
        self.assertEqual(raised(read_game, "\n".join(lines[:2])), ("BadText", {"at": 2}))
        self.assertEqual(raised(read_game, "\n".join(lines[1:])), ("BadText", {"at": 1}))
        self.assertEqual(read_game("\n".join(lines + lines[2:])), GAME + GAME[2:])

    def test_values_that_are_no_strings(self):
        for thing in (*JUNK, b"foe 0 to 0", ["foe 0 to 0"], ("foe 0 to 0",), GAME):
            if not isinstance(thing, str):
                with self.subTest(thing=thing):
                    self.assertEqual(raised(read_game, thing), ("BadText", {"at": 0}))

    def test_strings_of_any_kind(self):
        for text in ("", "x" * 3000, "\n" * 3000, " " * 3000, "9" * 3000, "foe " * 750):
            self.assertEqual(raised(read_game, text), ("BadText", {"at": 1}))
        self.assertEqual(read_game("foe " + "9" * 2990 + " to 0"), (("foe", int("9" * 2990), (0,), ()),))

    def test_each_change_of_a_text_is_judged_rightly(self):
        chance = random.Random(4)
        signs = "0123456789 :\nabefkloprst-+_"
        answers = {True: 0, False: 0}
        for game in chance_games(5, 60):
            text = game_text(game)
            for _ in range(60):
                at, size = chance.randrange(len(text) + 1), chance.choice((0, 0, 1, 1, 2))
                other = text[:at] + "".join(chance.choices(signs, k=chance.choice((0, 1, 1, 2)))) + text[at + size:]
                answers[self.judged(other)] += 1
        self.assertTrue(min(answers.values()) > 100, answers)

    def judged(self, text):
        """Whether the text is that of a game, after a look at what read_game says of it."""
        at = wrong_line(text)
        if at == 0:
            self.assertIs(is_game(read_game(text)), True)
            self.assertEqual(game_text(read_game(text)), text)
        else:
            self.assertEqual(raised(read_game, text), ("BadText", {"at": at}), text)
        return at == 0

    def test_arguments_by_name(self):
        self.assertEqual(read_game(text=game_text(game=GAME)), GAME)


if __name__ == "__main__":
    unittest.main()
