"""The same system in other words: other names, constants and orders.

A text is changed line by line, without the package.
"""


class OtherWords:
    """A change of words for the texts of one system, drawn at random."""

    def __init__(self, chance, schema_text):
        self.chance = chance
        self.tables, self.columns, self.orders, self.parents = {}, {}, {}, {}
        self.names, self.constants = {}, {}
        used = [f"{letter}{number}" for letter in "qrstz" for number in range(40)]
        chance.shuffle(used)
        self.used = iter(used)
        for line in schema_text.split("\n"):
            words = line.split(" ")
            if words[0] in ("root", "table"):
                cut = 2 if words[0] == "root" else 3
                self.parents[words[1]] = None if cut == 2 else words[2]
                self.tables[words[1]] = next(self.used)
                self.orders[words[1]] = chance.sample(words[cut:], len(words) - cut)
                for column in words[cut:]:
                    self.columns.setdefault(column, next(self.used))
        lines = [self.schema_line(line.split(" ")) for line in schema_text.split("\n")]
        self.schema_text = "\n".join(lines)
        self.old_columns = {line.split(" ")[1]: line.split(" ")[2 if line.startswith("root") else 3:]
                            for line in schema_text.split("\n") if line.split(" ")[0] in ("root", "table")}

    def schema_line(self, words):
        table = self.tables[words[1]]
        if words[0] in ("root", "table"):
            parent = [] if words[0] == "root" else [self.tables[words[2]]]
            return " ".join([words[0], table] + parent + [self.columns[column] for column in self.orders[words[1]]])
        if words[0] == "owner":
            return f"owner {table} {self.place(words[2])}"
        return f"follow {table} {self.columns[words[2]]} {self.columns[words[3]]}"

    def place(self, position):
        names = position.split(".")
        return ".".join([self.tables[name] for name in names[:-1]] + [self.columns[names[-1]]])

    def constant(self, constant):
        if constant not in self.constants:
            self.constants[constant] = f"'{next(self.used)}'"
        return self.constants[constant]

    def member(self, member):
        """A position or a constant in other words."""
        return self.constant(member) if member.startswith("'") else self.place(member)

    def name(self, kind, name):
        return self.names.setdefault((kind, name), next(self.used))

    def term(self, owner, term):
        if term == "me":
            return term
        if term.startswith("'"):
            return self.constant(term)
        name, dot, position = term.partition(".")
        return self.name(owner, name) + (f".{self.place(position)}" if dot else "")

    def text(self, text):
        """A handler or a question in other words; returns it, and the new index of each guard or condition."""
        lines = [line.split(" ") for line in text.split("\n")]
        owner = lines[0][1]
        parameters = [self.line(owner, words) for words in lines if words[0] in ("row", "value")]
        found = [self.line(owner, words) for words in lines if words[0] == "find"]
        needs = [self.line(owner, words) for words in lines if words[0] in ("need", "where")]
        deeds = [self.line(owner, words) for words in lines
                 if words[0] in ("new", "move", "set", "each", "take")]
        order = self.chance.sample(range(len(needs)), len(needs))
        self.chance.shuffle(parameters)
        head = [f"{lines[0][0]} {self.name('', owner)}"]
        return "\n".join(head + parameters + found + [needs[at] for at in order] + deeds), order

    def line(self, owner, words):
        row = lambda name: self.name(owner, name)
        if words[0] == "row":
            return f"row {row(words[1])} in {self.tables[words[3]]}"
        if words[0] == "value":
            return f"value {row(words[1])}"
        if words[0] == "find":
            below = f" below {row(words[5])}" if len(words) > 4 else ""
            return f"find {row(words[1])} in {self.tables[words[3]]}{below}"
        if words[0] in ("need", "where"):
            sides = [self.term(owner, words[1]), self.term(owner, words[3])]
            self.chance.shuffle(sides)
            return f"{words[0]} {sides[0]} = {sides[1]}"
        if words[0] == "new":
            under = f" under {row(words[5])}" if words[4] == "under" else ""
            terms = dict(zip(self.old_columns[words[3]], words[7:] if under else words[5:]))
            told = " ".join(self.term(owner, terms[column]) for column in self.orders[words[3]])
            return f"new {row(words[1])} in {self.tables[words[3]]}{under} with {told}"
        if words[0] == "move":
            return f"move {row(words[1])} under {row(words[3])}"
        if words[0] == "set":
            name, column = words[1].split(".")
            return f"set {row(name)}.{self.columns[column]} = {self.term(owner, words[3])}"
        if words[0] == "each":
            return (f"each {self.tables[words[1]]} below {row(words[3])} sets {self.columns[words[5]]} = "
                    f"{self.term(owner, words[7])}")
        return f"take {row(words[1])}"
