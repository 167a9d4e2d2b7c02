"""Plans: a fixed move at each place of the keeper, and what they bear."""

from howmanyslips.errors import BadPlan
from howmanyslips.games import require_game, require_place
from howmanyslips.kinds import is_integer_from, is_tuple_of
from howmanyslips.parity import ODD
from howmanyslips.plays import goals, is_lasso, lasso_weight, require_lasso, winner


def is_plan(game, thing):
    """Whether any value is a plan of the game."""
    require_game(game)
    return is_tuple_of(thing, len(game)) and all([is_planned(row, item) for row, item in zip(game, thing)])


def is_planned(row, thing):
    """Whether any value is what a plan can have for the place."""
    if row[0] == "foe":
        return thing is None
    return is_integer_from(thing, 0) and thing in row[2]


def require_plan(game, plan):
    """Raises BadGame if the game is none, BadPlan if the plan is none of the game."""
    if not is_plan(game, plan):
        raise BadPlan(plan)


def with_plan(game, plan):
    """The game in which each place of the keeper has the move of the plan alone."""
    require_plan(game, plan)
    return tuple([planned_row(row, move) for row, move in zip(game, plan)])


def planned_row(row, move):
    """The place with the move alone, all its moves if that is None."""
    owner, mark, moves, slips = row
    return owner, mark, moves if move is None else (move,), slips


def does_follow(game, plan, lasso):
    """Whether the lasso follows the plan."""
    require_plan(game, plan)
    require_lasso(game, lasso)
    return is_followed(plan, lasso)


def is_followed(plan, lasso):
    """Whether each move of the keeper in the lasso is that of the plan."""
    stem, loop = lasso
    steps = stem + loop
    return all([how == "slip" or plan[place] in (None, goal)
                for (place, how), goal in zip(steps, goals(steps, loop[0][0]))])


def worths(game, plan):
    """The worths of the plan at all places."""
    (_, quiet), (_, loud) = losses(with_plan(game, plan))
    return tuple([worth_at(place, quiet, loud) for place in range(len(game))])


def worth_at(place, quiet, loud):
    """The worth at the place, by the least walks to losses without and with slips for ever."""
    if place in quiet:
        return quiet[place][0]
    return "any" if place in loud else "ever"


def weak_lasso(game, plan, place):
    """Any weak lasso of the plan at the place, None if there is none."""
    alone = with_plan(game, plan)
    require_place(game, place)
    for exits, walks in losses(alone):
        if place in walks:
            stem, head = walk_along(walks, place)
            return tuple(stem), tuple(ring_at(alone, exits, head))
    return None


def weak_holds(game, plan, place, thing):
    """Whether any value is a weak lasso of the plan at the place."""
    require_plan(game, plan)
    require_place(game, place)
    if not is_lasso(game, thing) or not is_followed(plan, thing):
        return False
    stem, loop = thing
    if (stem + loop)[0][0] != place or winner(game, thing) != "foe":
        return False
    worth = worths(game, plan)[place]
    return lasso_weight(game, thing) == ("endless" if worth == "any" else worth)


def losses(game):
    """The two ways in which the foe can win a game in which the keeper has no choice.

    Each is a pair: the exits that are taken for ever in the end (first moves alone, then slips, too), and the
    least walks, along all exits, to the heads of rings of them that the foe wins.
    """
    exits = [exits_of(row) for row in game]
    moves = [[way for way in ways if way[1] == "move"] for ways in exits]
    return [(ring, least_walks(exits, heads(game, ring, ODD))) for ring in (moves, exits)]


def exits_of(row):
    """All ways to go on from the place: triples of the next place, how, and the weight that it counts with."""
    return [(goal, "move", 0) for goal in row[2]] + [(goal, "slip", weight) for goal, weight in row[3]]


def heads(game, exits, parity):
    """The places with marks of the parity that a ring of exits leads back to, over no greater mark."""
    return [place for place, row in enumerate(game)
            if row[1] % 2 == parity and ring_at(game, exits, place) is not None]


def ring_at(game, exits, head):
    """The steps of a shortest ring of exits from head to head over no greater mark, None if there is none."""
    low = [[way for way in ways if game[way[0]][1] <= game[head][1]] for ways in exits]
    walks = least_walks(low, [head])
    first = first_step(low[head], walks)
    if first is None:
        return None
    _, _, goal, how = first
    return [(head, how)] + walk_along(walks, goal)[0]


def least_walks(exits, ends):
    """For each place that has a walk along exits to one of the ends, the first step of a least one.

    That is a tuple of the weight of the whole walk, how many steps it has, and the step's goal and how.
    """
    walks = {end: (0, 0, None, None) for end in ends}
    lessened = True
    while lessened:
        lessened = False
        for place, ways in enumerate(exits):
            step = first_step(ways, walks)
            if step is not None and (place not in walks or step < walks[place]):
                walks[place] = step
                lessened = True
    return walks


def first_step(ways, walks):
    """The least first step of a walk along one of the ways and then as walks say, None if there is none."""
    return min([(weight + walks[goal][0], 1 + walks[goal][1], goal, how)
                for goal, how, weight in ways if goal in walks], default=None)


def walk_along(walks, place):
    """The steps of the least walk from the place, and its end."""
    steps = []
    while walks[place][1] > 0:
        _, _, goal, how = walks[place]
        steps.append((place, how))
        place = goal
    return steps, place
