"""Random derivations and random histories."""

from ownersagree.cases import cases, pieces
from ownersagree.errors import AgreeError, BadDerivation
from ownersagree.histories import check_derivation


def random_derivation(chance, system, length):
    """Returns a derivation of at most so many lines, each with sources that are drawn at random."""
    handlers = [system[name] for name in system.names()]
    steps = [(one, table, case) for one in handlers for table in system.schema.tables() for case in cases(one, table)]
    lines, tables = [], []
    for _ in range(length * 20):
        one, table, case = chance.choice(steps)
        pools = [[index for index, other in enumerate(tables) if other == home] for home in pieces(one, table, case)]
        if len(lines) < length and all(pools):
            line = (one.name, table, case, tuple(chance.choice(pool) for pool in pools))
            try:
                check_derivation(system, lines + [line])
            except BadDerivation:
                continue
            lines.append(line)
            tables.append(table)
    return lines


def random_call(chance, base, values):
    """Returns a call with rows that are in the base, None if a table has no rows."""
    one = base.system[chance.choice(base.system.names())]
    rows = []
    for _, table in one.row_parameters():
        numbers = base.numbers(table)
        if not numbers:
            return None
        rows.append(chance.choice(numbers))
    return (one.name, chance.choice(values), tuple(rows), tuple(chance.choice(values) for _ in one.value_parameters()))


def play_randomly(chance, base, values, tries):
    """Executes allowed calls, and returns them."""
    done = []
    for _ in range(tries):
        call = random_call(chance, base, values)
        if call is not None:
            try:
                base.run(call)
            except AgreeError:
                continue
            done.append(call)
    return done
