"""Likeness: places that no play can tell apart."""

from howmanyslips.games import are_moves, require_game, require_place
from howmanyslips.kinds import is_index, is_rising, is_tuple_of
from howmanyslips.rows import led_row


def is_likeness(game, thing):
    """Whether any value is a likeness of the game."""
    require_game(game)
    if not is_partition(thing, len(game)):
        return False
    heads = class_heads(thing)
    return all([led_row(game[place], heads) == led_row(game[group[0]], heads) for group in thing for place in group])


def is_partition(thing, many):
    """Whether any value is a tuple of classes, in order, that hold each of so many places once."""
    if not isinstance(thing, tuple) or not all([are_moves(group, many) for group in thing]):
        return False
    held = sorted([place for group in thing for place in group])
    return held == list(range(many)) and is_rising([group[0] for group in thing])


def class_heads(likeness):
    """For each place the number of its class."""
    return {place: number for number, group in enumerate(likeness) for place in group}


def classes(game):
    """The greatest likeness of the game."""
    require_game(game)
    # Each place is named by the first place that is not told from it yet.
    names = [0] * len(game)
    while True:
        signs = [(name, led_row(row, names)) for name, row in zip(names, game)]
        finer = [signs.index(sign) for sign in signs]
        if finer == names:
            return grouped(names)
        names = finer


def grouped(names):
    """The classes of places with the same name, each being named by its first place."""
    firsts = [place for place, name in enumerate(names) if place == name]
    return tuple([tuple([place for place, name in enumerate(names) if name == first]) for first in firsts])


def quotient(game):
    """The game with one place for each class of the greatest likeness."""
    likeness = classes(game)
    heads = class_heads(likeness)
    return tuple([led_row(game[group[0]], heads) for group in likeness])


def alike(game, u, v):
    """Whether the two places are alike."""
    require_two(game, u, v)
    return is_together(classes(game), u, v)


def require_two(game, u, v):
    """Raises BadGame if the game is none, BadPlace with the first of u and v that is none of its places."""
    require_game(game)
    require_place(game, u)
    require_place(game, v)


def is_together(likeness, u, v):
    """Whether both places are in one class."""
    heads = class_heads(likeness)
    return heads[u] == heads[v]


def judge_alike(game, u, v):
    """Any certificate that the two places are alike, or apart."""
    require_two(game, u, v)
    likeness = classes(game)
    if is_together(likeness, u, v):
        return "alike", likeness
    rows = []
    while len(rows) == 0 or rows[-1][:2] != (u, v):
        rows.append(next_row(game, rows, u, v))
    return "apart", tuple(rows)


def next_row(game, rows, u, v):
    """A row that is right by those before it, about other places than these, about u and v as soon as there is one."""
    known = apart_pairs(rows)
    pairs = [(u, v)] + [(one, other) for other in range(len(game)) for one in range(other)]
    found = [(one, other, reason) for one, other in pairs if (one, other) not in known for reason in reasons(game)
             if is_reason(game, known, one, other, reason)]
    return found[0]


def reasons(game):
    """All that can be a reason in a row."""
    return ["owner", "mark"] + [(kind, place) for kind in ("move", "slip") for place in range(len(game))]


def apart_pairs(rows):
    """The pairs of places that the rows are about, in both orders."""
    return {pair: True for one, other, _ in rows for pair in ((one, other), (other, one))}


def is_reason(game, known, one, other, thing):
    """Whether any value is a reason why the two places are apart, some pairs being known to be apart."""
    here, there = game[one], game[other]
    if thing == "owner":
        return here[0] != there[0]
    if thing == "mark":
        return here[1] != there[1]
    if not is_tuple_of(thing, 2) or thing[0] not in ("move", "slip") or not is_index(thing[1], len(game)):
        return False
    kind, goal = thing
    mine, others = edges_of(here, kind), edges_of(there, kind)
    return is_unmatched(known, mine, others, goal) or is_unmatched(known, others, mine, goal)


def edges_of(row, kind):
    """The goals of the moves or of the slips of the place, each with its weight, that of a move being 0."""
    return dict(row[3]) if kind == "slip" else {goal: 0 for goal in row[2]}


def is_unmatched(known, mine, others, goal):
    """Whether the goal is one of mine, and each of the others that weighs no more is known to be apart from it."""
    return goal in mine and all([(goal, rival) in known for rival in others if others[rival] <= mine[goal]])


def alike_holds(game, u, v, thing):
    """Whether any value is a certificate that the two places are alike, or apart."""
    require_two(game, u, v)
    if not is_tuple_of(thing, 2):
        return False
    kind, shown = thing
    if kind == "alike":
        return is_likeness(game, shown) and is_together(shown, u, v)
    return kind == "apart" and are_rows(game, shown) and shown[-1][:2] == (u, v)


def are_rows(game, thing):
    """Whether any value is a tuple of one or more rows, each of which is right by those before it."""
    if not isinstance(thing, tuple) or len(thing) == 0 or not all([is_about_two(game, row) for row in thing]):
        return False
    return all([is_reason(game, apart_pairs(thing[:at]), one, other, reason)
                for at, (one, other, reason) in enumerate(thing)])


def is_about_two(game, thing):
    """Whether any value is a tuple of two places and something else."""
    return is_tuple_of(thing, 3) and is_index(thing[0], len(game)) and is_index(thing[1], len(game))
