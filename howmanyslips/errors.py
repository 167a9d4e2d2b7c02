"""The errors that this package raises.

The messages are fixed texts: what an error is made with can be any value, so it is kept and never shown.
"""


class SlipError(Exception):
    """The base class of all errors of this package."""


class BadGame(SlipError):
    """The thing is not a game."""

    def __init__(self, thing):
        super().__init__("not a game")
        self.thing = thing


class BadText(SlipError):
    """The line with the number at is wrong; at is 0 if there is no text at all."""

    def __init__(self, at):
        super().__init__("not a text")
        self.at = at


class BadLasso(SlipError):
    """The thing is not a lasso of the game."""

    def __init__(self, thing):
        super().__init__("not a lasso of the game")
        self.thing = thing


class BadPath(SlipError):
    """The thing is not a path of the game."""

    def __init__(self, thing):
        super().__init__("not a path of the game")
        self.thing = thing


class BadPlan(SlipError):
    """The thing is not a plan of the game."""

    def __init__(self, thing):
        super().__init__("not a plan of the game")
        self.thing = thing


class BadPlace(SlipError):
    """The thing is not a place of the game, or not one that is asked for."""

    def __init__(self, thing):
        super().__init__("not a place that is asked for")
        self.thing = thing


class BadPlaces(SlipError):
    """The thing is not an ascending tuple of places of the game, or not one that is asked for."""

    def __init__(self, thing):
        super().__init__("not an ascending tuple of places that is asked for")
        self.thing = thing


class BadNumber(SlipError):
    """The thing is not a number: no integer from 0 on, not "any" and not "ever"."""

    def __init__(self, thing):
        super().__init__("not a number")
        self.thing = thing


class BadBudget(SlipError):
    """The thing is not a budget that is asked for."""

    def __init__(self, thing):
        super().__init__("not a budget that is asked for")
        self.thing = thing


class BadAttack(SlipError):
    """The thing is not an attack of the game."""

    def __init__(self, thing):
        super().__init__("not an attack of the game")
        self.thing = thing


class BadController(SlipError):
    """The thing is not a controller for the game."""

    def __init__(self, thing):
        super().__init__("not a controller for the game")
        self.thing = thing


class BadLot(SlipError):
    """The thing is not a lot of slips of the game."""

    def __init__(self, thing):
        super().__init__("not a lot of the game")
        self.thing = thing


class BadDeed(SlipError):
    """The thing is not a deed that is possible now."""

    def __init__(self, thing):
        super().__init__("not a deed that is possible now")
        self.thing = thing


class BrokenPromise(SlipError):
    """The place v would have less than what is promised for it."""

    def __init__(self, v):
        super().__init__("a place would have less than what is promised for it")
        self.v = v


class NothingToUndo(SlipError):
    """There is no deed that could be taken back."""


class NothingToRedo(SlipError):
    """There is no deed that could be done again."""
