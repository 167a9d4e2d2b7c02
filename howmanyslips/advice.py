"""Advice about moves, and the runs of numbers along paths."""

from howmanyslips.errors import BadPath, BadPlace
from howmanyslips.games import require_game, require_place
from howmanyslips.numbers import numbers, rank
from howmanyslips.plans import planned_row
from howmanyslips.plays import is_path
from howmanyslips.rows import with_row


def best_moves(game, place):
    """The ascending tuple of the moves of the place that best plans have."""
    require_keepers(game, place)
    told = numbers(game)
    return tuple([move for move in game[place][2] if numbers(with_move(game, place, move)) == told])


def with_move(game, place, move):
    """The game in which the move is the only one of the place."""
    return with_row(game, place, planned_row(game[place], move))


def safe_moves(game, place):
    """The ascending tuple of the moves of the place along which the number does not fall."""
    require_keepers(game, place)
    told = numbers(game)
    return tuple([move for move in game[place][2] if not does_sink(told, place, move)])


def require_keepers(game, place):
    """Raises BadGame if the game is none, BadPlace if the place is none of the keeper."""
    require_game(game)
    require_place(game, place)
    if game[place][0] != "keeper":
        raise BadPlace(place)


def does_sink(told, place, goal):
    """Whether the number falls from the place to the goal, the numbers being told."""
    return rank(told[goal]) < rank(told[place])


def story(game, path):
    """The tuple of the numbers of the places of the path."""
    told, met = told_path(game, path)
    return tuple([told[place] for place in met])


def blame(game, path):
    """The tuple of the positions of the steps of the path that were faults of the keeper."""
    told, met = told_path(game, path)
    return tuple([at for at, (place, how) in enumerate(path[0])
                  if how == "move" and game[place][0] == "keeper" and does_sink(told, place, met[at + 1])])


def told_path(game, path):
    """The numbers of the game, and the places that the path meets."""
    if not is_path(game, path):
        raise BadPath(path)
    steps, here = path
    return numbers(game), [place for place, _ in steps] + [here]
