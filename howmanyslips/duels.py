"""Duels: what comes of a plan of the keeper against an attack of the foe."""

from howmanyslips.errors import BadAttack
from howmanyslips.games import require_game, require_place
from howmanyslips.kinds import is_tuple_of
from howmanyslips.numbers import is_choice, numbers, told_levels
from howmanyslips.parity import EVEN
from howmanyslips.plans import exits_of, heads, least_walks, with_plan


def is_attack(game, thing):
    """Whether any value is an attack of the game."""
    require_game(game)
    return is_tuple_of(thing, len(game)) and all([is_choice(row, item) for row, item in zip(game, thing)])


def require_attack(game, attack):
    """Raises BadGame if the game is none, BadAttack if the attack is none of the game."""
    if not is_attack(game, attack):
        raise BadAttack(attack)


def best_attack(game):
    """Any best attack."""
    levels = told_levels(game)
    # At "ever" nothing is asked of the foe, but it needs some move.
    return tuple([row[2][0] if row[0] == "foe" and choice is None else choice
                  for row, (_, _, choice) in zip(game, levels)])


def is_best_attack(game, attack):
    """Whether the attack is a best one."""
    require_attack(game, attack)
    told = numbers(game)
    exits = [attack_exits(row, choice) for row, choice in zip(game, attack)]
    escapes = least_walks(exits, heads(game, exits, EVEN))
    return all([number == "ever" or (place not in escapes and is_within(told, number, exits[place]))
                for place, number in enumerate(told)])


def attack_exits(row, choice):
    """The ways to go on from the place that follow the attack."""
    how = "slip" if row[0] == "keeper" and choice is not None else "move"
    return [way for way in exits_of(row) if way[1] == how and choice in (None, way[0])]


def is_within(told, number, exits):
    """Whether the weight of each exit, and the number that it leads to, are together at most an integer number."""
    if number == "any":
        return True
    return all([told[goal] not in ("any", "ever") and weight + told[goal] <= number for goal, _, weight in exits])


def duel(game, plan, attack, place):
    """The lasso that follows the plan and the attack from the place."""
    planned = with_plan(game, plan)
    require_attack(game, attack)
    require_place(game, place)
    steps, met = [], {}
    while place not in met:
        met[place] = len(steps)
        # Both together leave just one way to go on.
        goal, how, _ = attack_exits(planned[place], attack[place])[0]
        steps.append((place, how))
        place = goal
    return tuple(steps[:met[place]]), tuple(steps[met[place]:])
