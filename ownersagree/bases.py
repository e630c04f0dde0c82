"""Bases: the rows, and how calls and edits change them (points 22 to 32, 56 and 59)."""

from ownersagree.checks import check_agreements, first_broken
from ownersagree.effects import Effect
from ownersagree.errors import BadValue, Broken, NoRow, OtherSchema, Refused, UnknownName, WrongCount, WrongTable
from ownersagree.patterns import Pattern
from ownersagree.scenes import scene_of
from ownersagree.stores import Store
from ownersagree.texts import is_value


class Row:
    """A row of a base, as it is at the moment of each question."""

    def __init__(self, base, table, number):
        self.table = table
        self.number = number
        self._base = base

    def __getitem__(self, at):
        store = self._present()
        if at not in self._base.system.schema.positions(self.table):
            raise UnknownName(0, at)
        return store.value_at((self.table, self.number), at)

    def __setitem__(self, at, worth):
        store = self._present().twin()
        if at not in self._base.system.schema.columns(self.table):
            raise UnknownName(0, at)
        if not is_value(worth):
            raise BadValue(worth)
        store.set_cell((self.table, self.number), at, worth)
        store.follow(store.near([(self.table, self.number)]))
        self._base._take(store)

    def __iter__(self):
        raise TypeError("a row is not iterated over: take its positions")

    @property
    def parent(self):
        """The number of the parent row, None for a row of a root table."""
        return self._present().entry((self.table, self.number)).above

    @parent.setter
    def parent(self, value):
        self.move(value)

    def move(self, number):
        """Gives the row the parent row with a number."""
        store = self._present().twin()
        above = self._base.system.schema.parent_of(self.table)
        if above is None:
            raise WrongTable(0, self.table)
        if not store.has(above, number):
            raise NoRow(above, number)
        store.set_above((self.table, self.number), number)
        store.follow(store.near([(self.table, self.number)]))
        self._base._take(store)

    @property
    def chain(self):
        """The addresses of the chain of the row, from the row upwards."""
        return self._present().chain_of((self.table, self.number))

    def _present(self):
        """Returns the store of the base; raises NoRow if it does not have the row."""
        store = self._base._store
        if not store.has(self.table, self.number):
            raise NoRow(self.table, self.number)
        return store


class Trial:
    """A block of statements after which the base can be as it was before."""

    def __init__(self, base):
        self._base = base
        self._before = None
        # __exit__ may only ask whether something is None, so None stands for a block that is kept.
        self._dropped = None

    @property
    def keep(self):
        """True if the base stays as it is at the end of the block, False if it will be as before."""
        return self._dropped is None

    @keep.setter
    def keep(self, value):
        self._dropped = None if value else True

    def __enter__(self):
        self._before = self._base._store
        return self

    def __exit__(self, kind, value, trace):
        dropped = self._dropped
        if kind is not None or dropped is not None:
            self._base._store = self._before


class Base:
    """The rows of the tables of a system.

    Each change puts another store in the place of the whole old one, so that a change that raises an error or is
    undone leaves nothing behind.
    """

    def __init__(self, system, *, watch=()):
        check_agreements(system.schema, watch)
        self.system = system
        self._store = Store(system.schema)
        self._watch = [tuple(agreement) for agreement in watch]

    def run(self, call):
        """Executes a call, and returns the addresses of the rows that it has put in."""
        effect = self._effect_of(call)
        self._store = effect.after
        return effect.made

    def call(self, name, me, *rows, **values):
        """Does the same as run; the values are passed by the names of their parameters."""
        names = self.system[name].value_parameters()
        if set(names) != set(values):
            raise WrongCount(0)
        return self.run((name, me, rows, [values[key] for key in names]))

    def run_all(self, calls, *, keep=True):
        """Executes all calls or none, and returns a list of what run returns for each."""
        with self.trial() as trial:
            made = [self.run(call) for call in calls]
            trial.keep = keep
        return made

    def trial(self):
        """Returns the context manager of a block of statements that can be undone."""
        return Trial(self)

    def touched(self, call):
        """Returns a tuple (k, kind, address) for each row that a call would touch, and changes nothing."""
        return self._effect_of(call).touched()

    def ask(self, question, me, rows, values):
        """Returns the numbers of the rows that a question finds, in ascending order."""
        if question.schema.text != self.system.schema.text:
            raise OtherSchema()
        scene = scene_of(self._store, question, me, rows, values)
        name, table, above = question.found()
        numbers = self._store.numbers(table)
        if above is not None:
            numbers = [address[1] for address in self._store.below(scene.rows[above], table)]
        scenes = [(number, scene.with_row(name, (table, number))) for number in numbers]
        return [number for number, there in scenes
                if all([there.are_equal(pair) for pair in question.conditions()])]

    def put(self, table, parent, values):
        """Puts in a row under the parent row with a number, and returns its own number."""
        schema = self.system.schema
        above = schema.parent_of(table)
        if above is not None and not self._store.has(above, parent):
            raise NoRow(above, parent)
        if above is None and parent is not None:
            raise WrongTable(0, table)
        columns = schema.columns(table)
        if len(values) != len(columns):
            raise WrongCount(0)
        for value in values:
            if not is_value(value):
                raise BadValue(value)
        store = self._store.twin()
        address = store.put_in(table, parent, {column: value for column, value in zip(columns, values)})
        store.follow([address])
        self._take(store)
        return address[1]

    def numbers(self, table):
        """Returns the numbers of the rows of a table, in ascending order."""
        self._check_table(table)
        return self._store.numbers(table)

    def pattern_of(self, table, number):
        """Returns the pattern of the chain of a row."""
        self._check_row(table, number)
        places = self.system.schema.positions(table)
        constants = self.system.constants()
        blocks = {}
        for place in places:
            value = self._store.value_at((table, number), place)
            blocks.setdefault(f"'{value}'", []).append(place)
        return Pattern(places, [block + [constant] if constant in constants else block
                                for constant, block in blocks.items()])

    def depth_of(self, table, number):
        """Returns the depth of a row."""
        self._check_row(table, number)
        return self._store.entry((table, number)).depth

    def broken(self, agreements):
        """Returns the first agreement that a row breaks and the least number of such a row, or None."""
        check_agreements(self.system.schema, agreements)
        return first_broken(self._store, agreements)

    def __getitem__(self, at):
        table, number = at
        self._check_row(table, number)
        return Row(self, table, number)

    def __contains__(self, x):
        if not isinstance(x, tuple) or len(x) != 2:
            return False
        return x[0] in self.system.schema.tables() and self._store.has(x[0], x[1])

    def __len__(self):
        return len(self._store.addresses())

    def __iter__(self):
        raise TypeError("a base is not iterated over: take the numbers of its tables")

    def _check_table(self, table):
        if table not in self.system.schema.tables():
            raise UnknownName(0, table)

    def _check_row(self, table, number):
        self._check_table(table)
        if not self._store.has(table, number):
            raise NoRow(table, number)

    def _take(self, store):
        """Takes a store with an edit in place of the own one, unless a watched agreement is broken there."""
        found = first_broken(store, self._watch)
        if found is not None:
            raise Broken(found[0], found[1])
        self._store = store

    def _effect_of(self, call):
        """Returns the effect of a call; raises the errors of point 24."""
        name, me, rows, values = call
        handler = self.system[name]
        scene = scene_of(self._store, handler, me, rows, values)
        for guard, pair in enumerate(handler.needs()):
            if not scene.are_equal(pair):
                raise Refused(name, guard)
        effect = Effect(self._store, handler, scene)
        found = first_broken(effect.after, self._watch)
        if found is not None:
            raise Refused(name, None, found[0], found[1]) from Broken(found[0], found[1])
        return effect
