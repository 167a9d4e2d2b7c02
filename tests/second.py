"""Second ways of telling what the package tells: straight from the definitions, for small games alone."""

import itertools


def is_whole(thing):
    return type(thing) is int and thing >= 0


def rank(number):
    """Something that is ordered as numbers are."""
    return {"any": (1, 0), "ever": (2, 0)}.get(number, (0, number))


def exits(game, plan=None, attack=None):
    """For each place the ways on, as triples (goal, how, weight), that follow the plan, or the attack."""
    found = []
    for place, (owner, _, moves, slips) in enumerate(game):
        if plan is not None and owner == "keeper":
            moves = (plan[place],)
        ways = [(goal, "move", 0) for goal in moves]
        if attack is None:
            ways += [(goal, "slip", weight) for goal, weight in slips]
        elif owner == "foe":
            ways = [(attack[place], "move", 0)]
        elif attack[place] is not None:
            ways = [(attack[place], "slip", dict(slips)[attack[place]])]
        found.append(ways)
    return found


def rings(found):
    """All rings of the exits that meet no place twice: lists of steps."""
    told = []

    def go(first, place, steps):
        met = [step[0] for step in steps]
        for goal, how, _ in found[place]:
            if goal == first:
                told.append(steps + [(place, how)])
            elif goal > first and goal != place and goal not in met:
                go(first, goal, steps + [(place, how)])

    for first in range(len(found)):
        go(first, first, [])
    return told


def rings_of(game, found, parity):
    """The rings whose greatest mark is of the parity."""
    return [ring for ring in rings(found) if max(game[place][1] for place, _ in ring) % 2 == parity]


def distances(found):
    """The least weights between all two places, None where there is no way."""
    count = len(found)
    far = [[0 if one == other else None for other in range(count)] for one in range(count)]
    for place, ways in enumerate(found):
        for goal, _, weight in ways:
            if far[place][goal] is None or weight < far[place][goal]:
                far[place][goal] = weight
    for mid, one, other in itertools.product(range(count), repeat=3):
        if far[one][mid] is not None and far[mid][other] is not None:
            whole = far[one][mid] + far[mid][other]
            if far[one][other] is None or whole < far[one][other]:
                far[one][other] = whole
    return far


def worths(game, plan):
    """What a plan bears, by all its rings that the foe wins, and the least weights of ways to them."""
    found = exits(game, plan=plan)
    lost = rings_of(game, found, 1)
    quiet = {place for ring in lost for place, _ in ring if "slip" not in [how for _, how in ring]}
    loud = {place for ring in lost for place, _ in ring}
    told = []
    for row in distances(found):
        weights = [row[place] for place in quiet if row[place] is not None]
        met = [place for place in loud if row[place] is not None]
        told.append(min(weights) if weights else "any" if met else "ever")
    return tuple(told)


def plans(game):
    """All plans."""
    return itertools.product(*[moves if owner == "keeper" else (None,) for owner, _, moves, _ in game])


def attacks(game):
    """All attacks."""
    choices = [moves if owner == "foe" else (None, *[goal for goal, _ in slips]) for owner, _, moves, slips in game]
    return itertools.product(*choices)


def numbers(game):
    """The greatest worths over all plans."""
    return tuple(max(told, key=rank) for told in zip(*[worths(game, plan) for plan in plans(game)]))


def is_best_attack(game, told, attack):
    """Whether an attack is best, the numbers being told, by all rings and ways on that follow it."""
    found = exits(game, attack=attack)
    far = distances(found)
    for place, number in enumerate(told):
        def is_met(ring):
            return far[place][ring[0][0]] is not None

        if number == "ever":
            continue
        if any(is_met(ring) for ring in rings_of(game, found, 0)):
            return False
        if number != "any":
            if any(is_met(ring) and "slip" in [how for _, how in ring] for ring in rings(found)):
                return False
            if heaviest(found, place, []) > number:
                return False
    return True


def heaviest(found, place, met):
    """The greatest weight of a way from the place that meets no place twice, and none of those met."""
    ways = [(goal, weight) for goal, _, weight in found[place] if goal not in met + [place]]
    return max([0] + [weight + heaviest(found, goal, met + [place]) for goal, weight in ways])


def budget_rows(game, k):
    """A game without slips as a dict, with the foe's budget of at most k in the names of its places."""
    rows = {}
    for place, (owner, mark, moves, slips) in enumerate(game):
        for left in range(k + 1):
            slid = [(goal, left - weight, "front") for goal, weight in slips if weight <= left]
            rows[place, left, "front"] = ("foe", mark, [(place, left, "back"), *slid])
            rows[place, left, "back"] = (owner, mark, [(goal, left, "front") for goal in moves])
    return rows


def will_rows(game):
    """A game without slips as a dict, in which the foe slips at will."""
    rows = {}
    for place, (owner, mark, moves, slips) in enumerate(game):
        rows[place, "front"] = ("foe", mark, [(place, "back"), *[(goal, "front") for goal, _ in slips]])
        rows[place, "back"] = (owner, mark, [(goal, "front") for goal in moves])
    return rows


def kept(rows):
    """The names from which the keeper wins, by small progress measures (M. Jurdzinski 2000)."""
    odds = sorted({mark for _, mark, _ in rows.values() if mark % 2 == 1}, reverse=True)
    caps = [sum(row[1] == mark for row in rows.values()) for mark in odds]
    lost = (len(rows) + 1,)
    told = {name: (0,) * len(odds) for name in rows}

    def lifted(mark, behind):
        if behind == lost:
            return lost
        items = [item if odd >= mark else 0 for odd, item in zip(odds, behind)]
        if mark % 2 == 0:
            return tuple(items)
        for at in reversed(range(odds.index(mark) + 1)):
            if items[at] < caps[at]:
                return (*items[:at], items[at] + 1, *[0] * (len(odds) - at - 1))
        return lost

    grown = True
    while grown:
        grown = False
        for name, (owner, mark, goals) in rows.items():
            pick = min if owner == "keeper" else max
            measure = pick(lifted(mark, told[goal]) for goal in goals)
            if measure > told[name]:
                told[name] = measure
                grown = True
    return {name for name in rows if told[name] != lost}


def broken(game, thing):
    """What is wrong with a certificate: nothing, "form", or the numbers of the clauses, counted from 1."""
    if not is_formed(game, thing):
        return {"form"}
    _, told, keeps, assaults = thing
    wrong = set()
    for place, (owner, mark, moves, slips) in enumerate(game):
        number = told[place]

        def falls(table, goal, parity, at=place, least=mark):
            top = max(row[1] for row in game)
            marks = [mark for mark in range(top, -1, -1) if mark % 2 == parity]
            one = [item for mark, item in zip(marks, table[at][1]) if mark >= least]
            other = [item for mark, item in zip(marks, table[goal][1]) if mark >= least]
            return one > other if least % 2 == parity else one >= other

        if number != 0:
            for goal in moves if owner == "foe" else [keeps[place][0]]:
                if rank(told[goal]) < rank(number) or (told[goal] == number and not falls(keeps, goal, 1)):
                    wrong.add(1)
            for goal, weight in slips:
                if number == "ever":
                    right = told[goal] == "ever" and falls(keeps, goal, 1)
                elif number == "any":
                    right = told[goal] in ("any", "ever")
                else:
                    right = told[goal] in ("any", "ever") or told[goal] >= number - weight
                if not right:
                    wrong.add(2)
        if number != "ever":
            choice = assaults[place][0]
            if owner == "foe" or choice is None:
                for goal in moves if choice is None else [choice]:
                    if rank(told[goal]) > rank(number) or (told[goal] == number and not falls(assaults, goal, 0)):
                        wrong.add(3)
            elif number == "any":
                if told[choice] != "any" or not falls(assaults, choice, 0):
                    wrong.add(4)
            elif told[choice] in ("any", "ever") or told[choice] > number - dict(slips)[choice]:
                wrong.add(4)
    return wrong


def is_formed(game, thing):
    """Whether the thing has the form of a certificate."""
    if type(thing) is not tuple or len(thing) != 4 or type(thing[0]) is not str or thing[0] != "numbers":
        return False
    if any(type(part) is not tuple or len(part) != len(game) for part in thing[1:]):
        return False
    top = max(row[1] for row in game)
    for (owner, _, moves, slips), number, keep, assault in zip(game, *thing[1:]):
        if not is_whole(number) and not (type(number) is str and number in ("any", "ever")):
            return False
        picks = (None,) if owner == "foe" else moves
        if not is_entry(keep, number == 0, picks, (top + 1) // 2):
            return False
        picks = moves if owner == "foe" else (None, *[goal for goal, _ in slips])
        if not is_entry(assault, number == "ever", picks, top // 2 + 1):
            return False
    return True


def is_entry(thing, empty, picks, many):
    """Whether the thing is None where there is to be nothing, otherwise one of the picks and a measure."""
    if empty:
        return thing is None
    if type(thing) is not tuple or len(thing) != 2 or not is_pick(thing[0], picks):
        return False
    return type(thing[1]) is tuple and len(thing[1]) == many and all(map(is_whole, thing[1]))


def is_pick(thing, picks):
    """Whether the thing is one of the picks, None or integers."""
    return thing in picks if thing is None or is_whole(thing) else False
