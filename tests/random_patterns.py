"""Random patterns of a table."""

from ownersagree.patterns import Pattern


def random_pattern(chance, schema, table, constants=("'a'", "'b'", "'c'")):
    """Returns a pattern of a table; some are fine and some are coarse."""
    places = schema.positions(table)
    count = chance.choice([len(places), len(places), chance.randrange(1, len(places) + 1)])
    blocks = [[] for _ in range(count)]
    for place in places:
        chance.choice(blocks).append(place)
    blocks = [block for block in blocks if block]
    chance.shuffle(blocks)
    for constant in constants:
        if blocks and chance.random() < 0.2:
            block = chance.choice(blocks)
            if not any(member.startswith("'") for member in block):
                block.append(constant)
    return Pattern(places, blocks)


def finest(schema, table):
    """Returns the pattern that joins nothing."""
    return Pattern(schema.positions(table), [])
