"""What several tests use: values of all kinds, changed values, games by chance from a fixed seed."""

import random

GAME = (("keeper", 2, (0,), ((1, 1),)), ("keeper", 1, (0, 2), ((2, 2),)), ("foe", 1, (2,), ()))


class Stranger:
    """Stands for an object that has nothing in common with the values asked for."""

    def __eq__(self, other):
        return isinstance(other, Stranger)


JUNK = (
    None, True, False, 0, 1, 2, -1, 7, 10 ** 39, "", " ", "0", "keeper", "foe", "move", "slip", "endless",
    "any", (), (0,), (True,), (0, 0), (1, 0), ((),), (None,), ((0, 1),), ((0, 1), (1, 1)), ((0, True),),
    [], [0], [[]], [(0, 1)], {}, {0: 1}, {"a": []}, Stranger(),
)


def changed(thing):
    """All values that come from a tuple by one change at any depth, the tuple itself not among them."""
    yield from JUNK
    if not isinstance(thing, tuple):
        return
    yield list(thing)
    for junk in JUNK:
        yield thing + (junk,)
        yield (junk,) + thing
    for at, part in enumerate(thing):
        yield thing[:at] + thing[at + 1:]
        yield thing[:at] + (part,) + thing[at:]
        if at > 0:
            yield thing[:at - 1] + (part, thing[at - 1]) + thing[at + 1:]
        for other in changed(part):
            yield thing[:at] + (other,) + thing[at + 1:]


def raised(call, *args, **more):
    """The name of the error's class and its attributes; fails if nothing is raised."""
    try:
        result = call(*args, **more)
    except Exception as error:
        return type(error).__name__, vars(error)
    raise AssertionError(f"nothing raised, returned {result!r}")


def chance_game(chance, many=5):
    """A game with at most so many places."""
    count = chance.randint(1, many)
    return tuple(chance_row(chance, count) for _ in range(count))


def chance_row(chance, count):
    owner = chance.choice(("keeper", "keeper", "foe"))
    moves = tuple(sorted(chance.sample(range(count), chance.randint(1, count))))
    goals = sorted(chance.sample(range(count), chance.randint(0, min(count, 3))))
    slips = tuple((goal, chance.randint(1, 9)) for goal in goals)
    return owner, chance.randint(0, 6), moves, slips if owner == "keeper" else ()


def chance_games(seed, times):
    chance = random.Random(seed)
    return [chance_game(chance) for _ in range(times)]


def chance_walk(chance, game, place, length):
    """Steps from the place, and the place that they lead to."""
    steps = []
    for _ in range(length):
        _, _, moves, slips = game[place]
        goal, how = chance.choice([(u, "move") for u in moves] + [(u, "slip") for u, _ in slips])
        steps.append((place, how))
        place = goal
    return tuple(steps), place


def chance_lasso(chance, game, length):
    """A lasso with at most so many steps, more only where the walk needs them to meet a place again."""
    while True:
        start = chance.randrange(len(game))
        steps, here = chance_walk(chance, game, start, chance.randint(1, length))
        loops = [at for at, step in enumerate(steps) if step[0] == here]
        if loops:
            at = chance.choice(loops)
            return steps[:at], steps[at:]
