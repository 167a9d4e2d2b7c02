"""Plays: lassos, which go on for ever, and paths, which have come to a place."""

from howmanyslips.errors import BadLasso, BadPath
from howmanyslips.games import require_game
from howmanyslips.kinds import is_index, is_tuple_of


def is_lasso(game, thing):
    """Whether any value is a lasso of the game."""
    require_game(game)
    if not is_tuple_of(thing, 2):
        return False
    stem, loop = thing
    if not isinstance(stem, tuple) or not isinstance(loop, tuple) or len(loop) == 0:
        return False
    return is_step(game, loop[0]) and is_walk(game, stem + loop, loop[0][0])


def is_path(game, thing):
    """Whether any value is a path of the game."""
    require_game(game)
    if not is_tuple_of(thing, 2):
        return False
    steps, here = thing
    return isinstance(steps, tuple) and is_index(here, len(game)) and is_walk(game, steps, here)


def is_step(game, thing):
    """Whether any value is a pair of a place and one of the two ways to go on."""
    return is_tuple_of(thing, 2) and is_index(thing[0], len(game)) and thing[1] in ("move", "slip")


def is_walk(game, things, here):
    """Whether the things are steps, each of which leads to the next one, and the last one to the place here."""
    if not all([is_step(game, thing) for thing in things]):
        return False
    return all([does_lead(game, step, goal) for step, goal in zip(things, goals(things, here))])


def does_lead(game, step, goal):
    """Whether the step can lead to the goal."""
    place, how = step
    if how == "move":
        return goal in game[place][2]
    return goal in dict(game[place][3])


def goals(steps, here):
    """The place that each step of a walk to the place here leads to."""
    return [step[0] for step in steps[1:]] + [here]


def winner(game, lasso):
    """Who wins the play of the lasso."""
    require_lasso(game, lasso)
    loop = lasso[1]
    greatest = max([game[step[0]][1] for step in loop])
    return "keeper" if greatest % 2 == 0 else "foe"


def lasso_weight(game, lasso):
    """What the slips of the lasso weigh together, "endless" if its loop has slips."""
    require_lasso(game, lasso)
    stem, loop = lasso
    if "slip" in [step[1] for step in loop]:
        return "endless"
    return walk_weight(game, stem, loop[0][0])


def path_weight(game, path):
    """What the slips of the path weigh together."""
    if not is_path(game, path):
        raise BadPath(path)
    steps, here = path
    return walk_weight(game, steps, here)


def require_lasso(game, lasso):
    """Raises BadGame if the game is none, BadLasso if the lasso is none of the game."""
    if not is_lasso(game, lasso):
        raise BadLasso(lasso)


def walk_weight(game, steps, here):
    """What the slips of the steps weigh together, the last of which leads to the place here."""
    return sum([step_weight(game, step, goal) for step, goal in zip(steps, goals(steps, here))])


def step_weight(game, step, goal):
    """The weight with which the step to the goal counts."""
    place, how = step
    # An edge that is a slip, too, counts nothing as a move.
    if how == "move":
        return 0
    return dict(game[place][3])[goal]
