"""What is so in a play at a moment, and what each step changed, so that it can be taken back."""

from stayopen.hosts import Host
from stayopen.letters import Letter
from stayopen.walks import copies


class Play:
    """The tables of a play. They hold objects and dicts that are never changed, and no None.

    `ask` from the numbers of asks to dicts (asking.py), `client` from names to dicts of the epoch
    that is known, the last number and the present ask or None, `letter` from the numbers of the
    letters on the way to Letters, `host` from places to Hosts, `fallen` from places to True,
    `ring` from epochs to Rings, `begin` from epochs above 0 to dicts (keeper.py), `many` from
    "sent" to how many letters were sent.
    """

    def __init__(self, store):
        self.store = store
        self.tables = {"ask": {}, "client": {}, "letter": {}, "fallen": {}, "begin": {}}
        self.tables["host"] = {place: Host(place) for place, _ in store.ring}
        self.tables["ring"] = {0: store.ring}
        self.tables["many"] = {"sent": 0}
        # Pairs of a step that is done and the rows that it changed.
        self.past = []
        # The rows that the present step changed: table, key, what stood there before or None.
        self.changed_rows = []

    def write(self, table, key, value):
        """Lets a value stand at a key of a table."""
        self.changed_rows.append((table, key, self.tables[table].get(key)))
        self.tables[table][key] = value

    def erase(self, table, key):
        """Lets nothing stand at a key of a table."""
        self.changed_rows.append((table, key, self.tables[table][key]))
        del self.tables[table][key]

    def end_step(self, step):
        """The present step is done."""
        self.past.append((step, self.changed_rows))
        self.changed_rows = []

    def take_back(self):
        """Takes back the last step, and returns it."""
        step, rows = self.past.pop()
        for table, key, value in rows[::-1]:
            if value is None:
                del self.tables[table][key]
            else:
                self.tables[table][key] = value
        return step

    def twin(self):
        """Another play in the same state."""
        other = Play(self.store)
        other.tables = {name: {key: table[key] for key in table} for name, table in self.tables.items()}
        other.past = list(self.past)
        return other

    def newest(self):
        """The newest epoch."""
        return len(self.tables["ring"]) - 1

    def copies_at(self, key, epoch):
        """The places of the copies of a key in an epoch, in the order of the walk."""
        return copies(self.store.book, self.tables["ring"][epoch], key)

    def send(self, sender, receiver, word, parts):
        """Sends a letter."""
        number = self.tables["many"]["sent"]
        self.write("many", "sent", number + 1)
        self.write("letter", number, Letter(number, sender, receiver, word, parts))
