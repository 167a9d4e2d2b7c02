"""Games with other goals: what the keeper wants of some places instead of the marks."""

from howmanyslips.games import require_game, require_places


def safe_game(game, bad):
    """The game in which the keeper wins a play exactly if no bad place is ever met."""
    return ended(seldom_game(game, bad), bad)


def reach_game(game, aims):
    """The game in which the keeper wins a play exactly if some aim is met."""
    return ended(again_game(game, aims), aims)


def again_game(game, aims):
    """The game in which the keeper wins a play exactly if aims are met endlessly often."""
    return marked(game, aims, 2, 1)


def seldom_game(game, bad):
    """The game in which the keeper wins a play exactly if bad places are met only finitely often."""
    return marked(game, bad, 1, 0)


def marked(game, chosen, mark, other):
    """The game with the mark at the chosen places, and the other one at all others."""
    require_game(game)
    require_places(game, chosen, 0)
    return tuple([(owner, mark if place in chosen else other, moves, slips)
                  for place, (owner, _, moves, slips) in enumerate(game)])


def ended(game, chosen):
    """The game in which the chosen places are never left."""
    return tuple([(owner, mark, (place,), ()) if place in chosen else (owner, mark, moves, slips)
                  for place, (owner, mark, moves, slips) in enumerate(game)])
