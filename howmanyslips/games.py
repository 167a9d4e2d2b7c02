"""Games, and how they are written as texts."""

from howmanyslips.errors import BadGame, BadPlace, BadPlaces, BadText
from howmanyslips.kinds import is_index, is_integer_from, is_rising, is_tuple_of


def is_game(thing):
    """Whether any value is a game."""
    if not isinstance(thing, tuple) or len(thing) == 0:
        return False
    return all([is_row(row, len(thing)) for row in thing])


def is_row(thing, many):
    """Whether any value is what a game with so many places has for one of them."""
    if not is_tuple_of(thing, 4):
        return False
    owner, mark, moves, slips = thing
    if not is_integer_from(mark, 0) or not are_moves(moves, many):
        return False
    if owner == "keeper":
        return are_slips(slips, many)
    return owner == "foe" and slips == ()


def are_moves(thing, many):
    """Whether any value can be the moves of a place."""
    return are_places(thing, many) and len(thing) > 0


def are_places(thing, many):
    """Whether any value is an ascending tuple of places of a game with so many."""
    return isinstance(thing, tuple) and all([is_index(place, many) for place in thing]) and is_rising(thing)


def are_slips(thing, many):
    """Whether any value can be the slips of a place of the keeper."""
    if not isinstance(thing, tuple) or not all([is_slip(slip, many) for slip in thing]):
        return False
    # No place stands twice, so the places alone tell whether the pairs are ascending.
    return is_rising([slip[0] for slip in thing])


def is_slip(thing, many):
    """Whether any value is a pair of a place and a weight."""
    return is_tuple_of(thing, 2) and is_index(thing[0], many) and is_integer_from(thing[1], 1)


def require_game(game):
    """Raises BadGame if the game is none."""
    if not is_game(game):
        raise BadGame(game)


def require_place(game, place):
    """Raises BadPlace if the place is none of the game."""
    if not is_index(place, len(game)):
        raise BadPlace(place)


def require_places(game, thing, least):
    """Raises BadPlaces if the thing is not an ascending tuple of at least so many places of the game."""
    if not are_places(thing, len(game)) or len(thing) < least:
        raise BadPlaces(thing)


def places(game):
    """The number of places of the game."""
    require_game(game)
    return len(game)


def game_text(game):
    """The text of the game."""
    require_game(game)
    return "\n".join([row_text(row) for row in game])


def row_text(row):
    """The line of one place."""
    owner, mark, moves, slips = row
    words = [owner, str(mark), "to"] + [str(place) for place in moves]
    if len(slips) > 0:
        words = words + ["slip"] + [f"{place}:{weight}" for place, weight in slips]
    return " ".join(words)


def read_game(text):
    """The game with the text."""
    if not isinstance(text, str):
        raise BadText(0)
    lines = text.split("\n")
    rows = []
    for at, line in enumerate(lines, start=1):
        row = read_row(line, len(lines))
        if row is None:
            raise BadText(at)
        rows.append(row)
    return tuple(rows)


def read_row(line, many):
    """The place with the line in a game with so many places, None if there is no such place."""
    words = line.split(" ")
    if len(words) < 2:
        return None
    moves, slips = words[3:], []
    if "slip" in moves:
        at = moves.index("slip")
        moves, slips = moves[:at], moves[at + 1:]
    row = (words[0], read_integer(words[1]),
           tuple([read_integer(word) for word in moves]), tuple([read_slip(word) for word in slips]))
    # Writing it again finds leading zeros, another word than "to", and a "slip" without slips.
    if is_row(row, many) and row_text(row) == line:
        return row
    return None


def read_slip(word):
    """The place and the weight of a slip, with None for what is not written as an integer."""
    place, _, weight = word.partition(":")
    return read_integer(place), read_integer(weight)


def read_integer(word):
    """The integer that the word tells in decimal digits, None if it has other signs or none."""
    if word.isascii() and word.isdigit():
        return int(word)
    return None
