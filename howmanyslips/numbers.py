"""The numbers of places: how much weight of slips the keeper can bear, and the certificates that show it."""

from howmanyslips.errors import BadNumber
from howmanyslips.games import require_game
from howmanyslips.kinds import is_integer_from, is_tuple_of
from howmanyslips.parity import EVEN, ODD, decide, decide_rigged, does_fall, is_measure, measures
from howmanyslips.plans import is_planned, worths


def is_number(thing):
    """Whether any value is a number."""
    return is_integer_from(thing, 0) or thing in ("any", "ever")


def require_number(thing):
    """Raises BadNumber if the thing is no number."""
    if not is_number(thing):
        raise BadNumber(thing)


def is_less(one, other):
    """Whether the number one is less than the number other."""
    require_number(one)
    require_number(other)
    return rank(one) < rank(other)


def rank(number):
    """A pair of integers for the number; the pairs are ordered as the numbers are."""
    if number == "ever":
        return 2, 0
    return (1, 0) if number == "any" else (0, number)


def numbers(game):
    """The tuple of the numbers of all places."""
    return tuple([number for number, _, _ in told_levels(game)])


def level(game, number):
    """The ascending tuple of the places with the number."""
    told = numbers(game)
    require_number(number)
    return tuple([place for place in range(len(game)) if told[place] == number])


def best_plan(game):
    """Any best plan."""
    return tuple([move for _, move, _ in told_levels(game)])


def is_best_plan(game, plan):
    """Whether the plan is a best one."""
    return worths(game, plan) == numbers(game)


def told_levels(game):
    """For each place its number, its move in a best plan, and its choice in a best attack.

    The move is None at the foe's places, the choice at those of the keeper without a slip; at "ever" it is None.
    """
    require_game(game)
    rows = [(None, row[2][0] if row[0] == "keeper" else None, None) for row in game]
    number, slips = 0, {}
    while number is not None:
        winners, moves = decide(game, numbered(rows) + list(slips))
        rows = settled(rows, number, winners, moves, slips)
        number, slips = next_level(game, rows)
    winners, moves, slips = decide_rigged(game, numbered(rows))
    rows = settled(rows, "any", winners, moves, slips)
    return [("ever" if number is None else number, move, choice) for number, move, choice in rows]


def numbered(rows):
    """The places that have a number by now."""
    return [place for place, row in enumerate(rows) if row[0] is not None]


def settled(rows, number, winners, moves, slips):
    """The rows after a round in which the number is given to the places without one from which the foe wins."""
    return [settled_row(row, number, winners[place], moves[place], slips.get(place))
            for place, row in enumerate(rows)]


def settled_row(row, number, winner, move, slip):
    """What a round makes of the row of one place."""
    told, planned, _ = row
    # The plan keeps the move of the last round that the keeper won from here: it leads past all lesser numbers.
    if winner == "keeper":
        return told, move, None
    if told is None:
        return number, planned, move if slip is None else slip
    return row


def next_level(game, rows):
    """The next integer that is a number, and for each place that slips make so low the goal of such a slip.

    None and no goals if no further integer is a number.
    """
    sums = [(rows[goal][0] + weight, place, goal) for place, row in enumerate(game) if rows[place][0] is None
            for goal, weight in row[3] if rows[goal][0] is not None]
    if len(sums) == 0:
        return None, {}
    least = min(sums)[0]
    return least, {place: goal for total, place, goal in sums if total == least}


def judge_game(game):
    """Any certificate of the numbers of the game."""
    rows = told_levels(game)
    kept = measures(game, ODD, kept_edges(game, rows))
    forced = measures(game, EVEN, forced_edges(game, rows))
    keeps = [None if row[0] == 0 else (row[1], measure) for row, measure in zip(rows, kept)]
    attacks = [None if row[0] == "ever" else (row[2], measure) for row, measure in zip(rows, forced)]
    return "numbers", tuple([row[0] for row in rows]), tuple(keeps), tuple(attacks)


def kept_edges(game, rows):
    """For each place with a number other than 0 the goals with the same one, if the keeper moves by the rows."""
    edges = []
    for row, (number, move, _) in zip(game, rows):
        ways = open_goals(row, move)
        if number == "ever":
            ways = ways + tuple([goal for goal, _ in row[3]])
        edges.append([goal for goal in ways if number != 0 and rows[goal][0] == number])
    return edges


def forced_edges(game, rows):
    """For each place with a number other than "ever" the goals with the same one, if the foe chooses by the rows."""
    edges = []
    for row, (number, _, choice) in zip(game, rows):
        edges.append([goal for goal in open_goals(row, choice) if number != "ever" and rows[goal][0] == number])
    return edges


def open_goals(row, choice):
    """The goals that are left at a place: the one that is chosen, those of all moves if none is."""
    return row[2] if choice is None else (choice,)


def game_holds(game, thing):
    """Whether any value is a certificate of the numbers of the game."""
    require_game(game)
    if not has_form(game, thing):
        return False
    _, told, keeps, attacks = thing
    return all([does_keep(game, told, keeps, place) and does_attack(game, told, attacks, place)
                for place in range(len(game))])


def has_form(game, thing):
    """Whether any value has the form of a certificate, be it right or not."""
    if not is_tuple_of(thing, 4) or thing[0] != "numbers":
        return False
    _, told, keeps, attacks = thing
    if not all([is_tuple_of(table, len(game)) for table in (told, keeps, attacks)]):
        return False
    return all([is_number(told[place]) and is_keep(game, place, told[place], keeps[place])
                and is_assault(game, place, told[place], attacks[place]) for place in range(len(game))])


def is_keep(game, place, number, thing):
    """Whether any value can stand in the keeper's table for a place with the number."""
    if number == 0:
        return thing is None
    return is_tuple_of(thing, 2) and is_planned(game[place], thing[0]) and is_measure(game, ODD, thing[1])


def is_assault(game, place, number, thing):
    """Whether any value can stand in the foe's table for a place with the number."""
    if number == "ever":
        return thing is None
    return is_tuple_of(thing, 2) and is_choice(game[place], thing[0]) and is_measure(game, EVEN, thing[1])


def is_choice(row, thing):
    """Whether any value is what an attack can have for the place."""
    owner, _, moves, slips = row
    if owner == "keeper" and thing is None:
        return True
    return is_integer_from(thing, 0) and thing in (moves if owner == "foe" else dict(slips))


def does_keep(game, told, keeps, place):
    """Whether the keeper's table is right about the place."""
    if told[place] == 0:
        return True
    row = game[place]
    moved = [does_keep_move(game, told, keeps, place, goal) for goal in open_goals(row, keeps[place][0])]
    slipped = [does_keep_slip(game, told, keeps, place, slip) for slip in row[3]]
    return all(moved) and all(slipped)


def does_keep_move(game, told, keeps, place, goal):
    """Whether the keeper's table is right about a move from the place to the goal."""
    if told[goal] == told[place]:
        return does_fall(ODD, game[place][1], keeps[place][1], keeps[goal][1])
    return rank(told[goal]) > rank(told[place])


def does_keep_slip(game, told, keeps, place, slip):
    """Whether the keeper's table is right about a slip of the place."""
    goal, weight = slip
    if told[place] == "ever":
        return does_keep_move(game, told, keeps, place, goal)
    if told[place] == "any":
        return told[goal] in ("any", "ever")
    return rank(told[goal]) >= (0, told[place] - weight)


def does_attack(game, told, attacks, place):
    """Whether the foe's table is right about the place."""
    if told[place] == "ever":
        return True
    row, choice = game[place], attacks[place][0]
    if row[0] == "keeper" and choice is not None:
        return does_attack_slip(game, told, attacks, place, choice)
    return all([does_attack_move(game, told, attacks, place, goal) for goal in open_goals(row, choice)])


def does_attack_move(game, told, attacks, place, goal):
    """Whether the foe's table is right about a move from the place to the goal."""
    if told[goal] == told[place]:
        return does_fall(EVEN, game[place][1], attacks[place][1], attacks[goal][1])
    return rank(told[goal]) < rank(told[place])


def does_attack_slip(game, told, attacks, place, goal):
    """Whether the foe's table is right about the slip to the goal that it chooses at the place."""
    if told[place] == "any":
        return told[goal] == "any" and does_attack_move(game, told, attacks, place, goal)
    return rank(told[goal]) <= (0, told[place] - dict(game[place][3])[goal])
