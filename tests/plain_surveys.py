"""The layers of point 37 by plain rounds: every step of every choice, in every round."""

import itertools

from ownersagree.cases import cases, pieces, step


def finest_of(patterns):
    """Returns the patterns for which no other one is finer, each once."""
    found = []
    for pattern in patterns:
        if pattern not in found and not any(other <= pattern and other != pattern for other in patterns):
            found.append(pattern)
    return found


def next_layer(system, layer):
    made = {table: list(patterns) for table, patterns in layer.items()}
    for name in system.names():
        for table in layer:
            for case in cases(system[name], table):
                homes = pieces(system[name], table, case)
                for chosen in itertools.product(*[layer[home] for home in homes]):
                    found = step(system[name], table, case, list(chosen))
                    if found is not None:
                        made[table].append(found)
    return {table: finest_of(patterns) for table, patterns in made.items()}


def texts_of(layer):
    return {table: sorted(str(pattern) for pattern in patterns) for table, patterns in layer.items()}


def plain_layers(system):
    """Returns the layers as dicts of lists of patterns, from layer 0 to the last one."""
    layers = [{table: [] for table in system.schema.tables()}]
    while True:
        layer = next_layer(system, layers[-1])
        if texts_of(layer) == texts_of(layers[-1]):
            return layers
        layers.append(layer)
