"""Controllers: plans that change from room to room along a play, and what they bear."""

from howmanyslips.errors import BadController
from howmanyslips.games import require_game, require_place
from howmanyslips.kinds import is_index, is_tuple_of
from howmanyslips.numbers import game_holds, judge_game, numbers
from howmanyslips.plans import is_plan, weak_holds, weak_lasso, with_plan
from howmanyslips.rows import led_row


def is_controller(game, thing):
    """Whether any value is a controller for the game."""
    require_game(game)
    if not isinstance(thing, tuple) or len(thing) == 0:
        return False
    return all([is_room(game, room, len(thing)) for room in thing])


def is_room(game, thing, many):
    """Whether any value is a room of a controller with so many rooms."""
    if not is_tuple_of(thing, 2):
        return False
    moves, nexts = thing
    return is_plan(game, moves) and is_tuple_of(nexts, len(game)) and all([is_index(room, many) for room in nexts])


def product(game, controller):
    """The game whose plays are those with the controller, with all places of the game for each room."""
    if not is_controller(game, controller):
        raise BadController(controller)
    rows = []
    for moves, nexts in controller:
        heads = [room * len(game) + place for place, room in enumerate(nexts)]
        rows = rows + [led_row(row, heads) for row in with_plan(game, moves)]
    return tuple(rows)


def controller_resilience(game, controller):
    """The tuple of the numbers of the controller."""
    told = numbers(product(game, controller))
    return told[:len(game)]


def judge_controller(game, controller):
    """Any certificate of the numbers of the product."""
    return judge_game(product(game, controller))


def controller_holds(game, controller, thing):
    """Whether any value is a certificate of the numbers of the product."""
    return game_holds(product(game, controller), thing)


def weak_play(game, controller, v):
    """Any weak play of the controller from the place v, None if there is none."""
    whole = product(game, controller)
    require_place(game, v)
    return weak_lasso(whole, only_plan(whole), v)


def is_weak_play(game, controller, v, thing):
    """Whether any value is a weak play of the controller from the place v."""
    whole = product(game, controller)
    require_place(game, v)
    # As nothing is left to choose, the number is the worth of the only plan, at "any" and "ever", too.
    return weak_holds(whole, only_plan(whole), v, thing)


def only_plan(game):
    """The plan of a game in which each place of the keeper has one move."""
    return tuple([row[2][0] if row[0] == "keeper" else None for row in game])
