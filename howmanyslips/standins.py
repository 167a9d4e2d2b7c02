"""Stand-ins: small games with the same numbers in the place of greater ones."""

from howmanyslips.games import require_game, require_place, require_places
from howmanyslips.numbers import numbers, require_number
from howmanyslips.rows import led_row


def chain(number):
    """The small game whose place 0 has the number."""
    require_number(number)
    if number == "ever":
        return (("keeper", 0, (0,), ()),)
    if number == 0:
        return (("keeper", 1, (0,), ()),)
    if number == "any":
        return ("keeper", 0, (0,), ((1, 1),)), ("keeper", 1, (0,), ())
    return ("keeper", 0, (0,), ((1, number),)), ("keeper", 1, (1,), ())


def chain_behind(many, number):
    """The places of the chain, numbered on behind so many other ones."""
    rows = chain(number)
    heads = [many + at for at in range(len(rows))]
    return tuple([led_row(row, heads) for row in rows])


def grafted(game, v, number):
    """The game with the chain of the number behind it, to which all that led to the place v leads instead."""
    require_game(game)
    require_place(game, v)
    require_number(number)
    many = len(game)
    heads = [many if place == v else place for place in range(many)]
    return tuple([led_row(row, heads) for row in game]) + chain_behind(many, number)


def standin_for(game, inside):
    """The game of the places inside, with a chain in the place of each one outside to which they lead."""
    require_game(game)
    require_places(game, inside, 1)
    told = numbers(game)
    heads = {place: at for at, place in enumerate(inside)}
    chains = ()
    for place in border(game, inside):
        heads[place] = len(inside) + len(chains)
        chains = chains + chain_behind(heads[place], told[place])
    return tuple([led_row(game[place], heads) for place in inside]) + chains


def border(game, inside):
    """The ascending list of the places outside to which places inside lead."""
    rows = [game[place] for place in inside]
    goals = [goal for row in rows for goal in row[2] + tuple([slip[0] for slip in row[3]])]
    return [place for place in range(len(game)) if place in goals and place not in inside]
