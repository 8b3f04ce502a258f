"""A keeper of a net under edits."""

from levelgifts.edits import edit_all, edit_effect, edit_net
from levelgifts.stuck import verdict


class Keeper:
    """A net, and the steps of edits that led to it."""

    def __init__(self, net):
        self._net = net
        # The lists are never modified, only replaced by longer or shorter ones, so that they can be kept.
        self._edits = []
        self._past = []
        self._held_net = net
        self._held_edits = []
        self._held_past = []

    @property
    def net(self):
        """The net that is held."""
        return self._net

    @property
    def steps(self):
        """The number of steps that are not taken back."""
        return len(self._past)

    def apply(self, edit):
        """Does the edit as a step."""
        self._take_step(edit_net(self._net, edit), [edit])

    def apply_all(self, edits):
        """Does all edits as one step, or none of them, and returns their number."""
        net = edit_all(self._net, edits)
        if edits:
            self._take_step(net, edits)
        return len(edits)

    def undo(self):
        """Takes back the last step. False if there is none."""
        if not self._past:
            return False
        self._net, self._edits = self._past[-1]
        self._past = self._past[:-1]
        return True

    def effect(self, edit):
        """The word of what the edit would do to the net."""
        return edit_effect(self._net, edit)

    def answer(self):
        """The verdict of the net."""
        return verdict(self._net)

    def __iter__(self):
        return iter(self._edits)

    def __enter__(self):
        self._held_net = self._net
        self._held_edits = self._edits
        self._held_past = self._past
        return self

    def __exit__(self, kind, value, trace):
        if kind is not None:
            self._net = self._held_net
            self._edits = self._held_edits
            self._past = self._held_past

    def _take_step(self, net, edits):
        """Keeps the net behind the edits, and what was held ahead of them."""
        self._past = self._past + [(self._net, self._edits)]
        self._edits = self._edits + edits
        self._net = net
