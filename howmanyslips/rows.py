"""Changes of games, a place at a time."""


def with_row(game, place, row):
    """The game that has the row at the place."""
    return game[:place] + (row,) + game[place + 1:]


def led_row(row, heads):
    """The row with each of its edges led on to what the heads have for the edge's goal.

    Of the slips that become one the lightest is left.
    """
    owner, mark, moves, slips = row
    weights = {}
    for goal, weight in slips:
        head = heads[goal]
        weights[head] = min(weight, weights.get(head, weight))
    led = sorted({heads[goal] for goal in moves})
    return owner, mark, tuple(led), tuple([(head, weights[head]) for head in sorted(list(weights))])
