"""Deeds: changes of a game and of what is promised for its places.

The promises are an ascending tuple of pairs (place, number).
"""

from howmanyslips.games import is_game, is_slip, read_integer
from howmanyslips.kinds import is_index, is_integer_from
from howmanyslips.numbers import is_less, is_number, numbers
from howmanyslips.rows import with_row


def is_possible(game, promises, thing):
    """Whether any value is a deed that is possible now."""
    if not is_deed(game, thing):
        return False
    if thing[0] == "promise":
        return True
    changed, kept = after_deed(game, promises, thing)
    # The other deeds are possible just where they change something, and leave a game.
    return is_game(changed) and (changed, kept) != (game, promises)


def is_deed(game, thing):
    """Whether any value has the form of a deed, be it possible or not."""
    if not isinstance(thing, tuple) or len(thing) < 2 or not is_index(thing[1], len(game)):
        return False
    kind, rest = thing[0], thing[2:]
    if kind == "free":
        return len(rest) == 0
    if kind == "slip":
        return is_slip(rest, len(game))
    if len(rest) != 1:
        return False
    if kind == "mark":
        return is_integer_from(rest[0], 0)
    if kind == "promise":
        return is_number(rest[0])
    return kind in ("firm", "move", "close") and is_index(rest[0], len(game))


def after_deed(game, promises, deed):
    """The game and the promises after the deed; what is no game tells that the deed is not possible."""
    kind, v = deed[:2]
    if kind not in ("promise", "free"):
        return with_row(game, v, changed_row(game[v], deed)), promises
    others = [pair for pair in promises if pair[0] != v]
    if kind == "promise":
        others.append((v, deed[2]))
    return game, tuple(sorted(others))


def changed_row(row, deed):
    """The row of a place after a deed that changes it."""
    owner, mark, moves, slips = row
    kind, part = deed[0], deed[2]
    if kind == "mark":
        return owner, part, moves, slips
    if kind == "move":
        return owner, mark, tuple(sorted(set(moves + (part,)))), slips
    if kind == "close":
        return owner, mark, tuple([goal for goal in moves if goal != part]), slips
    left = [slip for slip in slips if slip[0] != part]
    if kind == "slip":
        left.append(deed[2:])
    return owner, mark, moves, tuple(sorted(left))


def broken_promises(game, promises):
    """The places that have less than what is promised for them."""
    # Without promises there is no need of the numbers.
    told = numbers(game) if len(promises) > 0 else ()
    return [v for v, number in promises if is_less(told[v], number)]


def deed_line(deed):
    """The line of a text for the deed."""
    return " ".join([str(item) for item in deed])


def read_deed(line):
    """The deed with the line; for a line that no deed has something that is none, or has another line."""
    kind, *words = line.split(" ")
    return tuple([kind] + [word if word in ("any", "ever") else read_integer(word) for word in words])
