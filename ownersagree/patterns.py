"""Patterns: which positions of a row's chain are equal, and which equal a constant (points 12 to 15)."""

from ownersagree.errors import BadPattern, ConstantsMeet, OtherPlaces, UnknownName
from ownersagree.texts import is_constant


def _check_blocks(places, blocks):
    """Raises BadPattern for the first wrong string of the lists, in the order of point 13."""
    seen = set()
    for block in blocks:
        constants = []
        for member in block:
            if member in seen:
                raise BadPattern(member)
            seen.add(member)
            if member not in places:
                if constants or not is_constant(member):
                    raise BadPattern(member)
                constants.append(member)
        if len(constants) == len(block):
            raise BadPattern("")


def _in_order(places, blocks):
    """Returns all blocks of the places, single ones too, in the order of point 14."""
    listed = {member: block for block in blocks for member in block}
    ordered = []
    for place in places:
        block = listed.get(place, [place])
        positions = [other for other in places if other in block]
        if positions[0] == place:
            constants = [member for member in block if member not in places]
            ordered.append(tuple(positions + constants))
    return tuple(ordered)


def _meet(first, second):
    """Tells whether two blocks have a common member."""
    return any([member in second for member in first])


def _with_joined(blocks, block):
    """Returns the blocks after all members of the further block are joined."""
    apart = [old for old in blocks if not _meet(old, block)]
    joined = [member for old in blocks if _meet(old, block) for member in old]
    return apart + [joined + [member for member in block if member not in joined]]


def _check_constants(places, blocks):
    """Raises ConstantsMeet for the first block with two different constants."""
    for block in blocks:
        constants = sorted([str(member) for member in block if member not in places])
        if len(constants) > 1:
            raise ConstantsMeet(constants[0], constants[1])


class Pattern:
    """A division of positions into blocks, each with at most one constant."""

    def __init__(self, places, blocks):
        _check_blocks(places, blocks)
        self.places = tuple(places)
        self._blocks = _in_order(places, blocks)
        self._block_of = {member: block for block in self._blocks for member in block}

    def blocks(self):
        """Returns the blocks as lists: the positions in order, then the constant."""
        return [list(block) for block in self._blocks]

    def __str__(self):
        return "; ".join([" = ".join(block) for block in self._blocks])

    def __len__(self):
        return len(self._blocks)

    def __contains__(self, x):
        first, second = x
        for member in (first, second):
            if member not in self._block_of and not is_constant(member):
                raise UnknownName(0, member)
        # A constant that is in no block is joined with itself alone.
        return second in self._block_of.get(first, (first,))

    def __eq__(self, other):
        return isinstance(other, Pattern) and self.places == other.places and self._blocks == other._blocks

    def __le__(self, other):
        self._check_places(other)
        # All members of a block are joined if each one is joined with its first position.
        return all([member in other._block_of[block[0]] for block in self._blocks for member in block])

    def __and__(self, other):
        self._check_places(other)
        shared = [[member for member in block if member in theirs]
                  for block in self._blocks for theirs in other._blocks]
        # Two blocks may share their constant alone, which then is equal to no position.
        return Pattern(self.places, [block for block in shared if block and block[0] in self.places])

    def __or__(self, other):
        self._check_places(other)
        blocks = self.blocks()
        for block in other._blocks:
            blocks = _with_joined(blocks, block)
        _check_constants(self.places, blocks)
        return Pattern(self.places, blocks)

    def _check_places(self, other):
        if self.places != other.places:
            raise OtherPlaces()
