"""A second, plain reading of cases, pieces and steps, straight from the texts: points 33 to 35.

It knows nothing of the package. Patterns are lists of lists of positions and constants, as `blocks()` tells them, and
what is joined is a list of sets that is merged until nothing changes.
"""

import itertools

from tests.plain_model import PlainBase


def merged(groups):
    """Returns groups without common members."""
    found = []
    for group in groups:
        group = set(group)
        apart = []
        for other in found:
            if other & group:
                group |= other
            else:
                apart.append(other)
        found = apart + [group]
    return found


def is_constant(member):
    return isinstance(member, str) and member.startswith("'")


class PlainSteps:
    """The handler of a text over the schema of a text."""

    def __init__(self, schema_text, handler_text):
        self.base = PlainBase(schema_text, [handler_text])
        lines = [line.split(" ") for line in handler_text.split("\n")]
        self.params = {words[1]: words[3] for words in lines if words[0] == "row"}
        self.values = [words[1] for words in lines if words[0] == "value"]
        self.needs = [(words[1], words[3]) for words in lines if words[0] == "need"]
        self.deeds = [words for words in lines if words[0] in ("new", "move", "set", "each", "take")]
        self.news = {words[1]: words for words in self.deeds if words[0] == "new"}

    def tables(self, table):
        found = [table]
        while self.base.parents[found[-1]] is not None:
            found.append(self.base.parents[found[-1]])
        return found

    # Cases.

    def cases(self, table):
        """All tuples of levels that fit the rules, out of all tuples of levels."""
        names = list(self.params)
        levels = [("new", name) for name in self.news]
        for count in range(len(names) + 1):
            levels += [("old", some) for some in itertools.combinations(names, count)]
        tables = self.tables(table)
        return [case for case in itertools.product(levels, repeat=len(tables)) if self.is_case(tables, case)]

    def names_of(self, level):
        return (level[1],) if level[0] == "new" else level[1]

    def mover(self, level):
        """The last `move` line that moves the row of a level."""
        moves = [words for words in self.deeds if words[0] == "move" and level[0] == "old" and words[1] in level[1]]
        return moves[-1] if moves else None

    def is_case(self, tables, case):
        for at, level in enumerate(case):
            last = at == len(case) - 1
            if level[0] == "new":
                words = self.news[level[1]]
                if words[3] != tables[at]:
                    return False
                if words[4] == "with" and not last:
                    return False
                if words[4] == "under" and (last or words[5] not in self.names_of(case[at + 1])):
                    return False
                continue
            if any(self.params[name] != tables[at] for name in level[1]):
                return False
            mover = self.mover(level)
            if mover is not None and (last or mover[3] not in self.names_of(case[at + 1])):
                return False
            if mover is None and not last and case[at + 1][0] == "new":
                return False
        taken = [words[1] for words in self.deeds if words[0] == "take"]
        if any(name in taken for level in case for name in self.names_of(level)):
            return False
        return any(self.names_of(level) for level in case)

    # Pieces.

    def runs(self, case):
        """The lists of the indexes of the levels of each run."""
        found = []
        for at, level in enumerate(case):
            if level[0] == "new":
                continue
            goes_on = at > 0 and case[at - 1][0] == "old" and self.mover(case[at - 1]) is None
            if goes_on:
                found[-1].append(at)
            else:
                found.append([at])
        return found

    def others(self, case):
        """The row parameters that no level names."""
        named = {name for level in case for name in self.names_of(level)}
        return [name for name in self.params if name not in named]

    def pieces(self, table, case):
        tables = self.tables(table)
        return [tables[run[0]] for run in self.runs(case)] + [self.params[name] for name in self.others(case)]

    # Steps.

    def place(self, table, home, position):
        """The position that a row of a table reads where a row of the table home, above it, reads a position."""
        way = self.tables(table)
        return ".".join(way[1:way.index(home) + 1] + [position])

    def stand(self, table, case, name):
        """The piece in which a row parameter stands, and the table of that piece."""
        for index, run in enumerate(self.runs(case)):
            for at in run:
                if name in case[at][1]:
                    return index, self.tables(table)[run[0]]
        return len(self.runs(case)) + self.others(case).index(name), self.params[name]

    def read(self, table, case, term):
        """What a term stands for among the members of the groups."""
        if is_constant(term) or "." not in term:
            return term
        name, position = term.split(".", 1)
        index, home = self.stand(table, case, name)
        return (index, self.place(home, self.params[name], position))

    def joint(self, table, case, patterns):
        """The groups of all that is joined before the call, or None if two constants are."""
        groups = [["me"]] + [[value] for value in self.values]
        for index, (home, blocks) in enumerate(zip(self.pieces(table, case), patterns)):
            groups += [[member if is_constant(member) else (index, member) for member in block] for block in blocks]
            for low in self.tables(home):
                for owner, column, source in self.base.follows:
                    if owner == low:
                        high = self.base.parents[low]
                        groups.append([(index, self.place(home, low, column)), (index, self.place(home, high, source))])
        groups += [[self.read(table, case, left), self.read(table, case, right)] for left, right in self.needs]
        groups = merged(groups)
        if any(len([member for member in group if is_constant(member)]) > 1 for group in groups):
            return None
        return groups

    def sources(self, table, case):
        """For each level a dict of what is written into its columns."""
        tables = self.tables(table)
        cells = [{} for _ in case]
        for index, run in enumerate(self.runs(case)):
            for at in run:
                for column in self.base.columns[tables[at]]:
                    cells[at][column] = (index, self.place(tables[run[0]], tables[at], column))
        for at, level in enumerate(case):
            if level[0] == "new":
                words = self.news[level[1]]
                terms = words[5:] if words[4] == "with" else words[7:]
                read = [self.read(table, case, term) for term in terms]
                cells[at] = dict(zip(self.base.columns[tables[at]], read))
        for words in self.deeds:
            for at, level in enumerate(case):
                if words[0] == "set":
                    name, column = words[1].split(".")
                    if level[0] == "old" and name in level[1]:
                        cells[at][column] = self.read(table, case, words[3])
                if words[0] == "each" and tables[at] == words[1]:
                    if any(words[3] in self.names_of(above) for above in case[at + 1:]):
                        cells[at][words[5]] = self.read(table, case, words[7])
        for at in reversed(range(len(case) - 1)):
            for home, column, source in self.base.follows:
                if home == tables[at]:
                    cells[at][column] = cells[at + 1][source]
        return cells

    def step(self, table, case, patterns):
        """The text of the pattern after the call, or None."""
        groups = self.joint(table, case, patterns)
        if groups is None:
            return None
        tables = self.tables(table)
        found = {}
        for at, cells in enumerate(self.sources(table, case)):
            for column in self.base.columns[tables[at]]:
                found[self.place(table, tables[at], column)] = cells[column]
        blocks = []
        for place, source in found.items():
            group = next((group for group in groups if source in group), {source})
            for other_group, block in blocks:
                if other_group == group:
                    block.append(place)
                    break
            else:
                blocks.append((group, [place]))
        texts = []
        for group, block in blocks:
            texts.append(" = ".join(block + [member for member in group if is_constant(member)]))
        return "; ".join(texts)
