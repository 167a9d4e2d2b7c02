"""How few slips have to be made impossible for a place to bear as much as is asked for."""

from howmanyslips.errors import BadLot
from howmanyslips.games import require_game, require_place
from howmanyslips.kinds import is_index, is_rising, is_tuple_of
from howmanyslips.numbers import game_holds, judge_game, numbers, rank, require_number


def all_slips(game):
    """The ascending tuple of all slips, each a pair of a place and the slip's goal."""
    require_game(game)
    return tuple([(place, goal) for place, row in enumerate(game) for goal, _ in row[3]])


def is_lot(game, thing):
    """Whether any value is a lot: an ascending tuple of slips of the game."""
    if not isinstance(thing, tuple) or not all([is_pair(pair, len(game)) for pair in thing]):
        return False
    slips = all_slips(game)
    return all([pair in slips for pair in thing]) and is_rising(thing)


def is_pair(thing, many):
    """Whether any value is a pair of places of a game with so many."""
    return is_tuple_of(thing, 2) and is_index(thing[0], many) and is_index(thing[1], many)


def without_slips(game, lot):
    """The game without the slips of the lot."""
    require_game(game)
    if not is_lot(game, lot):
        raise BadLot(lot)
    rows = []
    for place, (owner, mark, moves, slips) in enumerate(game):
        left = [(goal, weight) for goal, weight in slips if (place, goal) not in lot]
        rows.append((owner, mark, moves, tuple(left)))
    return tuple(rows)


def costly(game):
    """The ascending tuple of the slips without each of which some number is another one."""
    told = numbers(game)
    return tuple([slip for slip in all_slips(game) if numbers(without_slips(game, (slip,))) != told])


def fewest_firm(game, v, number):
    """Any lot with as few slips as any that is enough for the place v and the number, None if there is none."""
    require_asked(game, v, number)
    slips = all_slips(game)
    # Without all slips the number is greatest, so if that is not enough, there is no need to look at the other lots.
    if not is_enough(numbers(without_slips(game, slips)), v, number):
        return None
    for many in range(len(slips)):
        for lot in lots_of(slips, many):
            if is_enough(numbers(without_slips(game, lot)), v, number):
                return lot
    return slips


def require_asked(game, v, number):
    """Raises BadGame, BadPlace or BadNumber if one of them is none."""
    require_game(game)
    require_place(game, v)
    require_number(number)


def is_enough(told, v, number):
    """Whether the place v has at least the number, the numbers being told."""
    return rank(told[v]) >= rank(number)


def lots_of(slips, many):
    """All lots of so many of the slips, in ascending order."""
    if many == 0:
        return [()]
    return [(slip,) + lot for at, slip in enumerate(slips) for lot in lots_of(slips[at + 1:], many - 1)]


def lesser_lots(game, lot):
    """All lots of the game that have one slip fewer than the lot, in ascending order."""
    return [] if len(lot) == 0 else lots_of(all_slips(game), len(lot) - 1)


def judge_firm(game, v, number):
    """Any certificate of how few slips have to be left out, so that the place v has at least the number."""
    lot = fewest_firm(game, v, number)
    if lot is None:
        return "never", judge_game(without_slips(game, all_slips(game)))
    papers = [judge_game(without_slips(game, lesser)) for lesser in lesser_lots(game, lot)]
    return "firm", lot, judge_game(without_slips(game, lot)), tuple(papers)


def firm_holds(game, v, number, thing):
    """Whether any value is a certificate of how few slips have to be left out."""
    require_asked(game, v, number)
    if is_tuple_of(thing, 2) and thing[0] == "never":
        return does_refute(game, all_slips(game), v, number, thing[1])
    if not is_tuple_of(thing, 4) or thing[0] != "firm" or not is_lot(game, thing[1]):
        return False
    _, lot, paper, papers = thing
    if not game_holds(without_slips(game, lot), paper) or not is_enough(paper[1], v, number):
        return False
    lots = lesser_lots(game, lot)
    return is_tuple_of(papers, len(lots)) and all([does_refute(game, lesser, v, number, part)
                                                   for lesser, part in zip(lots, papers)])


def does_refute(game, lot, v, number, thing):
    """Whether any value is a certificate of the game without the lot, by which this is not enough."""
    return game_holds(without_slips(game, lot), thing) and not is_enough(thing[1], v, number)
