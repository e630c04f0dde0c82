"""What it takes to be an agreement, and the rows that break one (points 31 and 48)."""

from ownersagree.errors import UnknownName
from ownersagree.texts import is_constant


def check_agreements(schema, agreements):
    """Raises UnknownName for the first name that makes one of them no agreement."""
    for table, left, right in agreements:
        places = schema.positions(table)
        if left not in places:
            raise UnknownName(0, left)
        if right not in places and not is_constant(right):
            raise UnknownName(0, right)


def _breaks(store, address, left, right):
    value = right[1:-1] if is_constant(right) else store.value_at(address, right)
    return store.value_at(address, left) != value


def first_broken(store, agreements):
    """Returns the pair of the first agreement that a row breaks and the least number of such a row, or None."""
    for table, left, right in agreements:
        for number in store.numbers(table):
            if _breaks(store, (table, number), left, right):
                return ((table, left, right), number)
    return None
