"""Games without slips: who wins them and how, and the measures that show it.

Slips are not looked at here, except by rigged_game, which makes moves of them.
"""

from howmanyslips.kinds import is_integer_from, is_tuple_of

# Marks modulo 2. The measures of the keeper have items for odd integers, those of the foe for even ones.
EVEN = 0
ODD = 1


def rigged_game(game):
    """The game without slips in which the foe slips at will, with a front and a back for each place."""
    rows = []
    for place, (owner, mark, moves, slips) in enumerate(game):
        ways = [2 * place + 1] + [2 * goal for goal, _ in slips]
        rows.append(("foe", mark, tuple(sorted(ways)), ()))
        rows.append((owner, mark, tuple([2 * goal for goal in moves]), ()))
    return tuple(rows)


def decide(game, lost):
    """Who wins from each place if nothing slips, and the foe wins as soon as one of the places lost is met.

    Both results are dicts; the second one has the move by which a place's owner wins, None if the other one wins.
    """
    region = list(range(len(game)))
    caught = attract(game, region, "foe", {place: None for place in lost})
    winners, moves = solve(game, [place for place in region if place not in caught])
    return merged(winners, moves, "foe", caught)


def decide_rigged(game, lost):
    """As decide, if the foe slips at will; the third result has the goals of the slips by which it wins."""
    winners, ways = decide(rigged_game(game), [2 * place for place in lost])
    fronts = {place: ways[2 * place] for place in range(len(game))}
    backs = {place: ways[2 * place + 1] for place in range(len(game))}
    moves = {place: None if backs[place] is None else backs[place] // 2 for place in backs}
    slips = {place: fronts[place] // 2 for place in fronts if fronts[place] is not None and fronts[place] % 2 == 0}
    return {place: winners[2 * place] for place in fronts}, moves, slips


def solve(game, region):
    """As decide, if the token stays in the region, into which each of its places has a move.

    (The way is that of W. Zielonka 1998.)
    """
    if len(region) == 0:
        return {}, {}
    top = max([game[place][1] for place in region])
    player, rival = ("keeper", "foe") if top % 2 == 0 else ("foe", "keeper")
    tops = [place for place in region if game[place][1] == top]
    near = attract(game, region, player, {place: move_into(game[place], player, region) for place in tops})
    winners, moves = solve(game, [place for place in region if place not in near])
    lost = {place: moves[place] for place in winners if winners[place] == rival}
    if len(lost) == 0:
        return merged(winners, moves, player, near)
    # From the places lost the rival wins in the whole region, too: the player cannot leave for near ones.
    away = attract(game, region, rival, lost)
    winners, moves = solve(game, [place for place in region if place not in away])
    return merged(winners, moves, rival, away)


def merged(winners, moves, player, caught):
    """The winners and the moves, with those of the places that the player has caught."""
    won = {place: player for place in caught}
    return {**winners, **won}, {**moves, **caught}


def attract(game, region, player, goals):
    """The places from which the player can force, within the region, that one of the goals is met.

    The values are the moves for it, None at the rival's places, and the values of the goals at the goals.
    """
    inside = {place: True for place in region}
    caught = {place: goals[place] for place in goals}
    grown = True
    while grown:
        grown = False
        for place in region:
            if place not in caught and is_caught(game[place], player, inside, caught):
                caught[place] = move_into(game[place], player, caught)
                grown = True
    return caught


def is_caught(row, player, inside, caught):
    """Whether the player can force, or the rival cannot avoid, that the next place is one of the caught ones."""
    met = [goal in caught for goal in row[2] if goal in inside]
    return any(met) if row[0] == player else all(met)


def move_into(row, player, region):
    """The first move of the place into the region, None if the place is not the player's."""
    if row[0] != player:
        return None
    return [goal for goal in row[2] if goal in region][0]


def measures(game, parity, edges):
    """For each place a measure with items for integers of the parity, such that each edge falls.

    The edges are a list of goals for each place; no ring of them has a greatest mark of the parity.
    """
    marks = [mark for mark in range(greatest_mark(game), -1, -1) if mark % 2 == parity]
    columns = [meetings(game, mark, edges) for mark in marks]
    return [tuple([column[place] for column in columns]) for place in range(len(game))]


def meetings(game, mark, edges):
    """For each place how many places with the mark a walk from there can meet before a greater mark."""
    counts = [0] * len(game)
    while True:
        # This ends: as the mark is the greatest one of no ring, a walk meets no place with it twice before a greater.
        further = [met_from(game, mark, edges[place], counts, place) for place in range(len(game))]
        if further == counts:
            return counts
        counts = further


def met_from(game, mark, goals, counts, place):
    """How many places with the mark a walk from the place can meet, by the counts of its goals."""
    here = game[place][1]
    if here > mark:
        return 0
    return max([counts[goal] for goal in goals], default=0) + (1 if here == mark else 0)


def greatest_mark(game):
    """The greatest mark of the game."""
    return max([row[1] for row in game])


def items_up_to(mark, parity):
    """How many integers of the parity there are from 0 up to the mark, which can be -1, too."""
    return (mark + 2 - parity) // 2


def is_measure(game, parity, thing):
    """Whether any value is a measure of the game with items for integers of the parity."""
    many = items_up_to(greatest_mark(game), parity)
    return is_tuple_of(thing, many) and all([is_integer_from(item, 0) for item in thing])


def does_fall(parity, mark, one, other):
    """Whether an edge falls, from a place with the mark and the first measure to one with the other measure."""
    many = len(one) - items_up_to(mark - 1, parity)
    if mark % 2 == parity:
        return one[:many] > other[:many]
    return one[:many] >= other[:many]
