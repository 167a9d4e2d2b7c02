"""What several tests use: values of all kinds, changed values, games by chance from a fixed seed."""

import random
import time
import unittest

from howmanyslips.desks import Desk

GAME = (("keeper", 2, (0,), ((1, 1),)), ("keeper", 1, (0, 2), ((2, 2),)), ("foe", 1, (2,), ()))


class Stranger:
    """Stands for an object that has nothing in common with the values asked for."""

    def __eq__(self, other):
        return isinstance(other, Stranger)


JUNK = (
    None, True, False, 0, 1, 2, -1, 7, 10 ** 39, "", " ", "0", "keeper", "foe", "move", "slip", "endless",
    "any", (), (0,), (True,), (0, 0), (1, 0), ((),), (None,), ((0, 1),), ((0, 1), (1, 1)), ((0, True),),
    [], [0], [[]], [(0, 1)], {}, {0: 1}, {"a": []}, Desk(GAME), Stranger(),
)


def changed(thing):
    """All values that come from a tuple by one change at any depth, the tuple itself not among them."""
    yield from JUNK
    if not isinstance(thing, tuple):
        return
    yield list(thing)
    for junk in JUNK:
        yield thing + (junk,)
        yield (junk,) + thing
    for at, part in enumerate(thing):
        yield thing[:at] + thing[at + 1:]
        yield thing[:at] + (part,) + thing[at:]
        if at > 0:
            yield thing[:at - 1] + (part, thing[at - 1]) + thing[at + 1:]
        for other in changed(part):
            yield thing[:at] + (other,) + thing[at + 1:]


def replaced(thing, way, part):
    """The tuple with the part at a way of positions replaced."""
    if not way:
        return part
    return (*thing[:way[0]], replaced(thing[way[0]], way[1:], part), *thing[way[0] + 1:])


def parts(thing, way=()):
    """All parts of a tuple at any depth, each with the way of positions to it."""
    yield way, thing
    if isinstance(thing, tuple):
        for at, part in enumerate(thing):
            yield from parts(part, (*way, at))


def bent(thing):
    """All values that come from a tuple by one list, bool or the like in the place of a part at any depth."""
    for way, part in parts(thing):
        if isinstance(part, tuple):
            others = [list(part)]
        elif isinstance(part, int):
            others = [part == 1, str(part), (part,), Stranger(), -1 - part]
        else:
            others = [False, (), [], [part], Stranger()]
        for other in others:
            yield replaced(thing, way, other)


def raised(call, *args, **more):
    """The name of the error's class and its attributes; fails if nothing is raised."""
    try:
        result = call(*args, **more)
    except Exception as error:
        return type(error).__name__, vars(error)
    raise AssertionError(f"nothing raised, returned {result!r}")


class ErrorsCase(unittest.TestCase):
    """Tests that ask for errors with a thing."""

    def assert_raised(self, name, thing, call, *args):
        told, attributes = raised(call, *args)
        self.assertEqual((told, list(attributes)), (name, ["thing"]), (call, args))
        self.assertIs(attributes["thing"], thing)


class TimedCase(unittest.TestCase):
    """Tests of answers that have to come in well under a second.

    Some milliseconds are usual, the rest is for slow machines.
    """

    def assert_soon(self, call, *args):
        began = time.process_time()
        result = call(*args)
        self.assertLess(time.process_time() - began, 1, (call, args))
        return result


def chance_game(chance, many=5):
    """A game with at most so many places."""
    count = chance.randint(1, many)
    return tuple(chance_row(chance, count) for _ in range(count))


def chance_row(chance, count):
    owner = chance.choice(("keeper", "keeper", "foe"))
    moves = tuple(sorted(chance.sample(range(count), chance.randint(1, count))))
    goals = sorted(chance.sample(range(count), chance.randint(0, min(count, 3))))
    slips = tuple((goal, chance.randint(1, 9)) for goal in goals)
    return owner, chance.randint(0, 6), moves, slips if owner == "keeper" else ()


def chance_games(seed, times):
    chance = random.Random(seed)
    return [chance_game(chance) for _ in range(times)]


def small_game(chance, many=4, mark=4, weight=3, slips=10):
    """A game with at most so many places and slips, and mostly few edges, so that all kinds of numbers come up."""
    count = chance.choice((chance.randint(1, many), many, many))
    rows = []
    for _ in range(count):
        owner = chance.choice(("keeper", "keeper", "keeper", "foe"))
        moves = chance.sample(range(count), chance.randint(1, min(2, count)))
        goals = chance.sample(range(count), min(count, slips, chance.choice((0, 1, 1, 2)))) if owner == "keeper" else []
        slips -= len(goals)
        pairs = tuple((goal, chance.randint(1, weight)) for goal in sorted(goals))
        rows.append((owner, chance.randint(0, mark), tuple(sorted(moves)), pairs))
    return tuple(rows)


def ladder_game(chance, many=4, weight=3):
    """A game in which slips often lead to a place that is lost, so that many numbers are integers."""
    count = chance.randint(2, many)
    rows = []
    for _ in range(count - 1):
        owner = chance.choice(("keeper", "keeper", "keeper", "foe"))
        moves = chance.sample(range(count - 1), chance.randint(1, min(2, count - 1)))
        goals = chance.sample(range(count), min(count, chance.choice((1, 1, 2)))) if owner == "keeper" else []
        pairs = tuple((goal, chance.randint(1, weight)) for goal in sorted(goals))
        rows.append((owner, chance.choice((0, 0, 2, 1)), tuple(sorted(moves)), pairs))
    return *rows, (chance.choice(("keeper", "foe")), 1, (count - 1,), ())


def small_games(seed, times, many=4, mark=4, weight=3):
    """So many games, half of them ladders."""
    chance = random.Random(seed)
    games = []
    for _ in range(times // 2):
        games.append(small_game(chance, many, mark, weight))
        games.append(ladder_game(chance, many, weight))
    return games


def chance_plan(chance, game):
    """Any plan, best or not."""
    return tuple(chance.choice(row[2]) if row[0] == "keeper" else None for row in game)


def chance_walk(chance, game, place, length):
    """Steps from the place, and the place that they lead to."""
    steps = []
    for _ in range(length):
        _, _, moves, slips = game[place]
        goal, how = chance.choice([(u, "move") for u in moves] + [(u, "slip") for u, _ in slips])
        steps.append((place, how))
        place = goal
    return tuple(steps), place


def chance_lasso(chance, game, length):
    """A lasso with at most so many steps, more only where the walk needs them to meet a place again."""
    while True:
        start = chance.randrange(len(game))
        steps, here = chance_walk(chance, game, start, chance.randint(1, length))
        loops = [at for at, step in enumerate(steps) if step[0] == here]
        if loops:
            at = chance.choice(loops)
            return steps[:at], steps[at:]
