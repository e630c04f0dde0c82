"""Levels: how the rows of a chain stand to a call (point 33)."""


def _some_of(names):
    """Returns all tuples of some of the names, in their order."""
    found = [()]
    for name in names:
        found = found + [(*some, name) for some in found]
    return found


def _levels_of(handler, table):
    """Returns all levels that a row of a table can have."""
    made = [("new", deed.row) for deed in handler.parsed_deeds() if deed.kind == "new" and deed.table == table]
    names = [name for name, home in handler.row_parameters() if home == table]
    return made + [("old", some) for some in _some_of(names)]


def has_row(level, name):
    """Tells whether a name stands for the row of a level."""
    kind, named = level
    return name == named if kind == "new" else name in named


def under_of(handler, level):
    """Returns the row under which a call puts or moves the row of a level, or None if it does neither."""
    under = None
    for deed in handler.parsed_deeds():
        # The last line that moves the row counts.
        if (deed.kind == "new" or deed.kind == "move") and has_row(level, deed.row):
            under = deed.under
    return under


def _stands_above(handler, level, above):
    """Tells whether the row of another level can stand directly above the row of a level."""
    under = under_of(handler, level)
    if under is None:
        return above[0] == "old"
    return has_row(above, under)


def chains_of(handler, table):
    """Returns all tuples of levels for the chain of a row after the first step of a call (rules 1 to 3)."""
    found = [()]
    for home in handler.schema.chain_of(table):
        found = [(*levels, above) for levels in found for above in _levels_of(handler, home)
                 if not levels or _stands_above(handler, levels[-1], above)]
    return found


def is_left(handler, levels):
    """Tells whether no row of a chain is taken (rule 4)."""
    taken = [deed.row for deed in handler.parsed_deeds() if deed.kind == "take"]
    return not any([has_row(level, name) for level in levels for name in taken])


def is_reached(levels):
    """Tells whether a row of a chain is new or an argument (rule 5)."""
    return any([kind == "new" or len(named) > 0 for kind, named in levels])


def _in_tuples(value):
    """Returns what may be a level in tuples, or None if it can be none."""
    if not isinstance(value, (tuple, list)) or len(value) != 2:
        return None
    kind, named = value
    words = named if isinstance(named, (tuple, list)) else [named]
    if not all([isinstance(word, str) for word in [kind, *words]]):
        return None
    return (kind, named) if isinstance(named, str) else (kind, tuple(named))


def read_levels(handler, table, value):
    """Returns what is passed as a case in tuples, or None if it is no case; it may be of any kind."""
    homes = handler.schema.chain_of(table)
    if not isinstance(value, (tuple, list)) or len(value) != len(homes):
        return None
    levels = tuple([_in_tuples(level) for level in value])
    if not all([level in _levels_of(handler, home) for level, home in zip(levels, homes)]):
        return None
    if not all([_stands_above(handler, level, above) for level, above in zip(levels, levels[1:])]):
        return None
    return levels if is_left(handler, levels) and is_reached(levels) else None
