"""A second, plain reading of questions and handlers over the layers of a survey: points 57 to 61 and 63.

It joins groups, as `plain_steps` does, for every choice of patterns of a layer.
"""

import itertools

from tests.plain_steps import PlainSteps, is_constant, merged


class Chains:
    """Chains with tables, and the rows of names on them: a chain and a table."""

    def __init__(self, plain, homes, stands, params):
        self.plain = plain
        self.homes = list(homes)
        self.stands = dict(stands)
        for name, table in params.items():
            if name not in self.stands:
                self.stands[name] = (len(self.homes), table)
                self.homes.append(table)

    def read(self, term):
        if is_constant(term) or "." not in term:
            return term
        name, position = term.split(".", 1)
        index, table = self.stands[name]
        return (index, self.plain.place(self.homes[index], table, position))

    def groups(self, patterns, equations):
        """The groups of all that is joined, or None if two constants are."""
        groups = [[member if is_constant(member) else (index, member) for member in block]
                  for index, pattern in enumerate(patterns) for block in pattern.blocks()]
        groups = merged(groups + [[self.read(left), self.read(right)] for left, right in equations])
        return None if any(len([member for member in group if is_constant(member)]) > 1 for group in groups) else groups


def are_joined(groups, left, right):
    return left == right or any(left in group and right in group for group in groups)


def choices(found, homes, depth):
    """All choices of patterns of a layer; of the finest ones if depth is None."""
    return itertools.product(*[found.patterns(home, depth=depth) for home in homes])


class PlainQuestion:
    """A question over the schema of a text."""

    def __init__(self, schema_text, text):
        lines = [line.split(" ") for line in text.split("\n")]
        self.plain = PlainSteps(schema_text, "handler h")
        self.find = [words for words in lines if words[0] == "find"][0]
        params = {words[1]: words[3] for words in lines if words[0] == "row"}
        stands = {self.find[1]: (0, self.find[3])}
        if len(self.find) > 4:
            stands[self.find[5]] = (0, params[self.find[5]])
        self.chains = Chains(self.plain, [self.find[3]], stands, params)
        self.conditions = [(words[1], words[3]) for words in lines if words[0] == "where"]

    def finds(self, patterns, conditions=None):
        return self.chains.groups(patterns, self.conditions if conditions is None else conditions)

    def fails(self, owner, patterns):
        groups = self.finds(patterns)
        return groups is not None and not are_joined(groups, (0, owner), "me")

    def judge(self, found, agreements, owner):
        """The least depth of a row of somebody else, or the word for what it rests on."""
        homes = self.chains.homes
        for depth in range(found.rounds + 1):
            if owner is not None and any(self.fails(owner, chosen) for chosen in choices(found, homes, depth)):
                return depth
        if owner is None or not any(self.finds(chosen) is not None for chosen in choices(found, homes, None)):
            return "nothing"
        held = [agreements.pattern_of(home) for home in homes]
        return "patterns" if None not in held and self.fails(owner, held) else "agreements"

    def idle(self, found):
        return idle_equations(self.chains, self.conditions, found)

    def differs(self, found, other, depth):
        """Tells whether a row of a layer meets these conditions and not all of those of another question."""
        for chosen in choices(found, self.chains.homes, depth):
            groups = self.finds(chosen)
            if groups is not None and not all(are_joined(groups, self.chains.read(left), self.chains.read(right))
                                              for left, right in other.conditions):
                return True
        return False


def idle_equations(chains, equations, found):
    """The indexes of the equations each of which follows from all others in every choice."""
    idle = []
    for index, (left, right) in enumerate(equations):
        rest = equations[:index] + equations[index + 1:]
        told = [chains.groups(chosen, rest) for chosen in choices(found, chains.homes, None)]
        if all(groups is None or are_joined(groups, chains.read(left), chains.read(right)) for groups in told):
            idle.append(index)
    return idle


class PlainHandler(PlainSteps):
    """A handler whose cases may have rows that are taken, if nothing else is said."""

    taking = True

    def is_case(self, tables, case):
        deeds = self.deeds
        if self.taking:
            self.deeds = [words for words in deeds if words[0] != "take"]
        told = PlainSteps.is_case(self, tables, case)
        self.deeds = deeds
        return told

    def cases_with(self, table, taking):
        self.taking = taking
        return self.cases(table)

    def table_of(self, name):
        return self.params[name] if name in self.params else self.news[name][3]

    def ways(self):
        """The ways in their order: the way, and how the row stands in the call."""
        found = []
        for index, words in enumerate(self.deeds):
            name = words[1].split(".")[0]
            if words[0] == "set":
                found.append(((index, "set", self.params[name]), ("row", name)))
            if words[0] == "move":
                found.append(((index, "moved", self.params[name]), ("row", name)))
                if words[3] in self.params:
                    found.append(((index, "under", self.params[words[3]]), ("row", words[3])))
            if words[0] == "new":
                if words[4] == "under" and words[5] in self.params:
                    found.append(((index, "under", self.params[words[5]]), ("row", words[5])))
                found.append(((index, "new", words[3]), ("new", name)))
            if words[0] == "each":
                found.append(((index, "each", words[1]), ("below", words[3])))
            if words[0] == "take":
                found.append(((index, "taken", self.params[name]), ("row", name)))
                found += [((index, "taken", table), ("below", name)) for table in self.base.parents
                          if self.params[name] in self.tables(table)[1:]]
        return found

    def settings(self, way, stand, owner):
        """The chains, the guards and the owner in each arrangement in which the way can touch a row."""
        kind, name = stand
        table = way[2]
        if kind == "row":
            chains = Chains(self, [], {}, self.params)
            return [(chains.homes, lambda patterns: chains.groups(patterns, self.needs),
                     chains.read(f"{name}.{owner}"))]
        found = []
        for case in self.cases_with(table, kind != "new"):
            joint = (lambda patterns, case=case: self.joint(table, case, [pattern.blocks() for pattern in patterns]))
            if kind == "new" and case[0] == ("new", name):
                home, column = self.owner_cell(table, owner)
                source = self.sources(table, case)[self.tables(table).index(home)][column]
                found.append((self.pieces(table, case), joint, source))
            if kind == "below" and case[0][0] == "old" and any(name in self.names_of(level) for level in case[1:]):
                found.append((self.pieces(table, case), joint, (0, owner)))
        return found

    def owner_cell(self, table, owner):
        names = owner.split(".")
        return (names[-2] if len(names) > 1 else table), names[-1]

    def judge(self, found, agreements, owners):
        """The first way and its least depth, or the word for what it rests on."""
        ways = [(way, self.settings(way, stand, owners[way[2]])) for way, stand in self.ways()
                if owners[way[2]] is not None]
        fails = lambda groups, owner: groups is not None and not are_joined(groups, owner, "me")
        for way, settings in ways:
            for depth in range(found.rounds + 1):
                if any(fails(joint(chosen), owner) for homes, joint, owner in settings
                       for chosen in choices(found, homes, depth)):
                    return way, depth
        settings = [setting for _, of_way in ways for setting in of_way]
        if not any(joint(chosen) is not None for homes, joint, _ in settings for chosen in choices(found, homes, None)):
            return "nothing"
        for homes, joint, owner in settings:
            held = [agreements.pattern_of(home) for home in homes]
            if None not in held and fails(joint(held), owner):
                return "patterns"
        return "agreements"

    def idle(self, found):
        return idle_equations(Chains(self, [], {}, self.params), self.needs, found)
