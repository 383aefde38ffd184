"""Clients: they make letters and hear answers, through a line that may lose, double and delay them."""

from telltrove.letters import ANSWER_HEAD, DROP, FINE, NOTHING, PUT, READ, headed
from telltrove.wires import read_wire, wire_of

OP_PLACE = 4


class Client:
    """A client with a number, of one version for ever."""

    def __init__(self, house, client, name):
        self.house = house
        self.client = client
        self.version = house.number_of(name)
        self.number = 0
        self.letter = ()
        # Whether the last letter waits for its answer.
        self.waits = False

    def ask_read(self, key):
        """The next letter: it asks what is under a key."""
        return self._next_letter(READ, key, ())

    def ask_put(self, key, whole):
        """The next letter: it puts a whole under a key."""
        return self._next_letter(PUT, key, wire_of(self.house, self.version, whole))

    def ask_drop(self, key):
        """The next letter: it drops what is under a key."""
        return self._next_letter(DROP, key, ())

    def _next_letter(self, op, key, wire):
        self.number += 1
        self.letter = headed(self.client, self.number, (self.version, op, key, *wire))
        self.waits = True
        return self.letter

    def again(self):
        """The last letter."""
        return self.letter

    def hear(self, answer):
        """What an answer tells, None if it is passed over."""
        if not self.waits or answer[:ANSWER_HEAD - 1] != self.letter[:ANSWER_HEAD - 1]:
            return None
        self.waits = False
        status = answer[ANSWER_HEAD - 1]
        if status == NOTHING:
            return ("absent",)
        if status != FINE:
            return "refused", status
        if self.letter[OP_PLACE] != READ:
            return ("done",)
        whole, _ = read_wire(self.house, self.version, answer[ANSWER_HEAD:])
        return "value", whole
