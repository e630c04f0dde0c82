"""A second, plain reading of bases, straight from the texts: points 22 to 30, 56 and 59.

It knows nothing of the package. A row is a dict; whatever depends on chains is found anew by walking up each row.
"""

import copy
import re


class PlainError(Exception):
    """The name of the error class that is due, and its attributes."""

    def __init__(self, kind, **told):
        Exception.__init__(self, kind, told)
        self.kind = kind
        self.told = told


def is_value(value):
    return isinstance(value, str) and re.fullmatch("[a-z0-9]{1,20}", value) is not None


class PlainBase:
    def __init__(self, schema_text, handler_texts):
        self.parents, self.columns, self.follows = {}, {}, []
        for line in schema_text.split("\n"):
            words = line.split(" ")
            if words[0] == "root":
                self.parents[words[1]], self.columns[words[1]] = None, words[2:]
            if words[0] == "table":
                self.parents[words[1]], self.columns[words[1]] = words[2], words[3:]
            if words[0] == "follow":
                self.follows.append(tuple(words[1:]))
        self.handlers = {}
        for text in handler_texts:
            lines = [line.split(" ") for line in text.split("\n")]
            self.handlers[lines[0][1]] = lines[1:]
        self.rows = {}
        self.last = {table: 0 for table in self.parents}

    # What can be read of it.

    def chain(self, address):
        found = [address]
        while self.parents[found[-1][0]] is not None:
            found.append((self.parents[found[-1][0]], self.rows[found[-1]]["up"]))
        return found

    def value(self, address, position):
        for name in position.split(".")[:-1]:
            address = (name, self.rows[address]["up"])
        return self.rows[address]["cells"][position.split(".")[-1]]

    def positions(self, table):
        way, found = "", []
        while table is not None:
            found += [way + column for column in self.columns[table]]
            table = self.parents[table]
            way = f"{way}{table}."
        return found

    def state(self):
        return {address: (row["up"], row["cells"], row["depth"]) for address, row in self.rows.items()}

    def below(self, address, table):
        return sorted(other for other in self.rows if other[0] == table and address in self.chain(other)[1:])

    def broken(self, agreements):
        for agreement in agreements:
            for address in sorted(self.rows):
                table, left, right = agreement
                if address[0] == table:
                    wanted = right.strip("'") if right[0] == "'" else self.value(address, right)
                    if self.value(address, left) != wanted:
                        return agreement, address[1]
        return None

    # Calls.

    def parameters(self, lines):
        rows = [(words[1], words[3]) for words in lines if words[0] == "row"]
        return rows, [words[1] for words in lines if words[0] == "value"]

    def meanings(self, lines, me, rows, values):
        row_names, value_names = self.parameters(lines)
        if len(rows) != len(row_names) or len(values) != len(value_names):
            raise PlainError("WrongCount", line=0)
        for value in [me] + list(values):
            if not is_value(value):
                raise PlainError("BadValue", value=value)
        for (_, table), number in zip(row_names, rows):
            if (table, number) not in self.rows:
                raise PlainError("NoRow", table=table, number=number)
        addresses = {name: (table, number) for (name, table), number in zip(row_names, rows)}
        return addresses, dict(zip(value_names, values))

    def term(self, term, me, addresses, named):
        if term[0] == "'":
            return term.strip("'")
        if term == "me":
            return me
        if "." in term:
            return self.value(addresses[term.split(".")[0]], term.split(".", 1)[1])
        return named[term]

    def run(self, name, me, rows, values):
        """Executes a call; returns the new addresses and what it touches. Nothing has changed if it raises."""
        if name not in self.handlers:
            raise PlainError("UnknownName", line=0, name=name)
        lines = self.handlers[name]
        addresses, named = self.meanings(lines, me, rows, values)
        guards = [words for words in lines if words[0] == "need"]
        deeds = [words for words in lines if words[0] in ("new", "move", "set", "each", "take")]
        # All terms are read before anything changes.
        for index, words in enumerate(guards):
            if self.term(words[1], me, addresses, named) != self.term(words[3], me, addresses, named):
                raise PlainError("Refused", handler=name, guard=index, agreement=None, number=None)
        read = [[self.term(term, me, addresses, named) for term in self.written(words)] for words in deeds]
        old = copy.deepcopy(self.rows)
        arguments = set(addresses.values())
        rows_of = dict(addresses)
        made = self.shape(deeds, read, rows_of)
        self.write(deeds, read, rows_of)
        self.follow()
        touched = self.touched(deeds, rows_of, addresses, set(old))
        self.deepen(old, arguments, arguments | set(made))
        taken = [rows_of[words[1]] for words in deeds if words[0] == "take"]
        gone = [address for address in self.rows if set(self.chain(address)) & set(taken)]
        for address in gone:
            del self.rows[address]
        touched = [way for way in touched if way[1] != "new" or way[2] in self.rows]
        return made, touched

    def written(self, words):
        if words[0] == "new":
            return words[7:] if words[4] == "under" else words[5:]
        return {"set": words[3:4], "each": words[7:8]}.get(words[0], [])

    def shape(self, deeds, read, rows_of):
        made = []
        for words, terms in zip(deeds, read):
            if words[0] == "new":
                self.last[words[3]] += 1
                address = (words[3], self.last[words[3]])
                up = rows_of[words[5]][1] if words[4] == "under" else None
                self.rows[address] = {"up": up, "cells": dict(zip(self.columns[words[3]], terms)), "depth": 0}
                rows_of[words[1]] = address
                made.append(address)
            if words[0] == "move":
                self.rows[rows_of[words[1]]]["up"] = rows_of[words[3]][1]
        return made

    def write(self, deeds, read, rows_of):
        for words, terms in zip(deeds, read):
            if words[0] == "set":
                name, column = words[1].split(".")
                self.rows[rows_of[name]]["cells"][column] = terms[0]
            if words[0] == "each":
                for address in self.below(rows_of[words[3]], words[1]):
                    self.rows[address]["cells"][words[5]] = terms[0]

    def follow(self):
        # A chain has at most four tables, so that four rounds reach every row.
        for _ in range(4):
            for table, column, source in self.follows:
                for address in self.rows:
                    if address[0] == table:
                        above = (self.parents[table], self.rows[address]["up"])
                        self.rows[address]["cells"][column] = self.rows[above]["cells"][source]

    def deepen(self, old, arguments, starts):
        for address, row in self.rows.items():
            if set(self.chain(address)) & starts:
                depths = [0] + [old[argument]["depth"] for argument in arguments]
                row["depth"] = 1 + max(depths + ([old[address]["depth"]] if address in old else []))

    def touched(self, deeds, rows_of, addresses, old):
        found = []
        for index, words in enumerate(deeds):
            if words[0] == "set":
                found.append((index, "set", addresses[words[1].split(".")[0]]))
            if words[0] == "move":
                found.append((index, "moved", addresses[words[1]]))
                found += [(index, "under", addresses[name]) for name in [words[3]] if name in addresses]
            if words[0] == "new":
                found += [(index, "under", addresses[name]) for name in words[5:6]
                          if words[4] == "under" and name in addresses]
                found.append((index, "new", rows_of[words[1]]))
            if words[0] == "each":
                found += [(index, "each", address) for address in self.below(rows_of[words[3]], words[1])
                          if address in old]
            if words[0] == "take":
                found.append((index, "taken", addresses[words[1]]))
                for table in self.parents:
                    found += [(index, "taken", address) for address in self.below(addresses[words[1]], table)
                              if address in old]
        return found

    def ask(self, text, me, rows, values):
        lines = [line.split(" ") for line in text.split("\n")]
        addresses, named = self.meanings(lines, me, rows, values)
        find = [words for words in lines if words[0] == "find"][0]
        found = []
        for address in sorted(self.rows):
            if address[0] == find[3] and (len(find) == 4 or addresses[find[5]] in self.chain(address)[1:]):
                there = {**addresses, find[1]: address}
                if all(self.term(words[1], me, there, named) == self.term(words[3], me, there, named)
                       for words in lines if words[0] == "where"):
                    found.append(address[1])
        return found

    # Edits.

    def put(self, table, parent, values):
        if table not in self.parents:
            raise PlainError("UnknownName", line=0, name=table)
        above = self.parents[table]
        if above is not None and (above, parent) not in self.rows:
            raise PlainError("NoRow", table=above, number=parent)
        if above is None and parent is not None:
            raise PlainError("WrongTable", line=0, name=table)
        if len(values) != len(self.columns[table]):
            raise PlainError("WrongCount", line=0)
        for value in values:
            if not is_value(value):
                raise PlainError("BadValue", value=value)
        self.last[table] += 1
        number = self.last[table]
        self.rows[(table, number)] = {"up": parent, "cells": dict(zip(self.columns[table], values)), "depth": 0}
        self.follow()
        return number

    def set(self, address, column, value):
        self.check_row(address)
        if column not in self.columns[address[0]]:
            raise PlainError("UnknownName", line=0, name=column)
        if not is_value(value):
            raise PlainError("BadValue", value=value)
        self.rows[address]["cells"][column] = value
        self.follow()

    def move(self, address, number):
        self.check_row(address)
        above = self.parents[address[0]]
        if above is None:
            raise PlainError("WrongTable", line=0, name=address[0])
        if (above, number) not in self.rows:
            raise PlainError("NoRow", table=above, number=number)
        self.rows[address]["up"] = number
        self.follow()

    def check_row(self, address):
        if address not in self.rows:
            raise PlainError("NoRow", table=address[0], number=address[1])
