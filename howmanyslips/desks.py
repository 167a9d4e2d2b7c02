"""Desks: a game that is changed deed by deed, under promises."""

from howmanyslips.deeds import after_deed, broken_promises, deed_line, is_possible, read_deed
from howmanyslips.errors import BadDeed, BadText, BrokenPromise, NothingToRedo, NothingToUndo
from howmanyslips.games import game_text, read_game, require_game
from howmanyslips.numbers import numbers


class Desk:
    """Keeps a game and promises, and the deeds that changed them."""

    def __init__(self, game):
        require_game(game)
        # All deeds, those that can be redone too, and the game and the promises before the first and after each one.
        self._deeds = ()
        self._states = ((game, ()),)
        # How many of the deeds are done and not undone.
        self._done = 0

    def __eq__(self, other):
        if not isinstance(other, Desk):
            return False
        return (self._states[0], self._deeds, self._done) == (other._states[0], other._deeds, other._done)

    def do(self, deed):
        """Does a deed; what could be redone no longer can."""
        game, promises = self._states[self._done]
        if not is_possible(game, promises, deed):
            raise BadDeed(deed)
        state = after_deed(game, promises, deed)
        broken = broken_promises(state[0], state[1])
        if len(broken) > 0:
            raise BrokenPromise(broken[0])
        self._deeds = self.deeds() + (deed,)
        self._states = self._states[:self._done + 1] + (state,)
        self._done += 1

    def undo(self):
        """Takes back the last deed that is not undone."""
        if self._done == 0:
            raise NothingToUndo()
        self._done -= 1

    def redo(self):
        """Does the deed again that was undone last."""
        if self._done == len(self._deeds):
            raise NothingToRedo()
        self._done += 1

    def game(self):
        """The game now."""
        return self._states[self._done][0]

    def numbers(self):
        """The tuple of the numbers of the game now."""
        return numbers(self.game())

    def promises(self):
        """The ascending tuple of the pairs of a place and the number that is promised for it."""
        return self._states[self._done][1]

    def deeds(self):
        """The tuple of the deeds that are done and not undone."""
        return self._deeds[:self._done]

    def text(self):
        """The text of the desk."""
        first = self._states[0][0]
        return "\n".join([game_text(first), "deeds"] + [deed_line(deed) for deed in self.deeds()])

    def copied(self):
        """A desk in the same state that goes its own way."""
        # All that a desk has is tuples and integers, so that two desks can have the same.
        desk = Desk(self._states[0][0])
        desk._deeds = self._deeds
        desk._states = self._states
        desk._done = self._done
        return desk


def read_desk(text):
    """The desk with the text."""
    if not isinstance(text, str):
        raise BadText(0)
    lines = text.split("\n")
    if "deeds" not in lines:
        read_game(text)
        raise BadText(len(lines) + 1)
    head = lines.index("deeds")
    desk = Desk(read_game("\n".join(lines[:head])))
    for at, line in enumerate(lines[head + 1:], start=head + 2):
        deed = read_deed(line)
        if deed_line(deed) != line:
            raise BadText(at)
        try:
            desk.do(deed)
        except (BadDeed, BrokenPromise):
            raise BadText(at) from None
    return desk
