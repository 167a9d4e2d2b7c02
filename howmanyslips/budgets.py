"""Games without slips that tell the numbers: with a budget of slips, and with slips at will."""

from howmanyslips.errors import BadBudget
from howmanyslips.games import require_game, require_place
from howmanyslips.kinds import is_integer_from
from howmanyslips.numbers import is_less, numbers
from howmanyslips.parity import rigged_game


def unrolled(game, k):
    """The game without slips in which the foe has the budget k, with a front and a back for place and budget."""
    require_game(game)
    require_budget(k)
    rows = []
    for budget in range(k + 1):
        for place, row in enumerate(game):
            rows.append(front_row(game, place, budget))
            rows.append(back_row(game, row, budget))
    return tuple(rows)


def front_row(game, place, budget):
    """The front of the place with the budget: here the foe decides whether there is a slip."""
    _, mark, _, slips = game[place]
    fronts = [front_at(game, goal, budget - weight) for goal, weight in slips if weight <= budget]
    return "foe", mark, tuple(sorted([front_at(game, place, budget) + 1] + fronts)), ()


def back_row(game, row, budget):
    """The back of a place with the budget: here its owner moves."""
    owner, mark, moves, _ = row
    return owner, mark, tuple([front_at(game, goal, budget) for goal in moves]), ()


def rigged(game):
    """The game without slips in which the foe slips at will, with a front and a back for each place."""
    require_game(game)
    return rigged_game(game)


def front(game, k, place, budget):
    """The place of unrolled(game, k) that is the front of the place with the budget."""
    require_game(game)
    require_budget(k)
    require_place(game, place)
    require_budget(budget)
    if budget > k:
        raise BadBudget(budget)
    return front_at(game, place, budget)


def front_at(game, place, budget):
    """The number of the front of the place with the budget; that of its back is the next one."""
    return 2 * (budget * len(game) + place)


def wins_with(game, place, k):
    """Who wins from the place if the foe can make slips that weigh at most k together."""
    require_game(game)
    require_place(game, place)
    require_budget(k)
    # No need to unroll the game, which would be large for a large budget.
    return "keeper" if is_less(k, numbers(game)[place]) else "foe"


def require_budget(thing):
    """Raises BadBudget if the thing is no integer from 0 on."""
    if not is_integer_from(thing, 0):
        raise BadBudget(thing)
