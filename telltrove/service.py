"""The service: it hears letters of clients, and does each of them once."""

from telltrove.deeds import LAST_KEY
from telltrove.errors import BadBytes
from telltrove.letters import BAD_BYTES, DROP, FINE, GONE, LETTER_HEAD, NOTHING, NO_DEED, PUT, READ, UNLET
from telltrove.letters import headed, number_in
from telltrove.letting import is_let
from telltrove.wires import read_wire, wire_of

LAST_CLIENT = 3


class Service:
    """Does letters with a store; the last answer to each client stands in the store's session blocks."""

    def __init__(self, store):
        self.store = store

    def hear(self, letter):
        """The answer to a letter, () if it is not answered."""
        if len(letter) < LETTER_HEAD or letter[0] > LAST_CLIENT:
            return ()
        number = number_in(letter)
        last = self.store.session(letter[0])
        if number == 0 or number < number_in(last):
            return ()
        if number == number_in(last):
            return last
        deeds, told = self._work(letter)
        answer = headed(letter[0], number, told)
        self.store.deal(deeds, (letter[0], answer))
        return answer

    def _work(self, letter):
        """The deeds that a letter asks for, and the status with what follows it."""
        _, _, _, version, op, key = letter[:LETTER_HEAD]
        if version not in self.store.tables.house.living(self.store.epoch):
            return (), (GONE,)
        if op not in (READ, PUT, DROP) or key > LAST_KEY:
            return (), (NO_DEED,)
        if op == READ:
            return (), self._read(version, key)
        name = self.store.tables.house.names[version]
        if op == PUT:
            return self._put(version, name, key, letter[LETTER_HEAD:])
        return (("drop", name, key),), (NOTHING if self.store.paper(key) is None else FINE,)

    def _read(self, version, key):
        """The status of a read, with the wire of the whole if there is one."""
        codes = self.store.paper(key)
        if codes is None:
            return (NOTHING,)
        tables = self.store.tables
        return (FINE, *wire_of(tables.house, version, tables.whole(self.store.epoch, codes, version)))

    def _put(self, version, name, key, wire):
        """The deeds and the status of a put."""
        house = self.store.tables.house
        try:
            whole, _ = read_wire(house, version, wire)
        except BadBytes:
            return (), (BAD_BYTES,)
        if not is_let(house.forms[version], whole):
            return (), (UNLET,)
        return (("put", name, key, whole),), (FINE,)
