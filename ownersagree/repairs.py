"""Repairs: the fewest changes of a system that make wished agreements hold (points 64 to 66)."""

from ownersagree.checks import check_agreements
from ownersagree.errors import BadOffer, TooMany, UnknownName
from ownersagree.handlers import Handler
from ownersagree.judging import judge_agreement
from ownersagree.schemas import Schema
from ownersagree.surveys import survey
from ownersagree.systems import System

MOST_OFFERS = 5


def edited(system, offers):
    """Returns the system with all offers."""
    schema = system.schema
    texts = {name: system[name].text for name in system.names()}
    for number, offer in enumerate(offers):
        if not _is_offer(offer):
            raise BadOffer(number)
        if offer[0] == "follow":
            schema = Schema.read("\n".join([schema.text, " ".join(offer)]))
        else:
            _, name, line = offer
            if name not in texts:
                raise UnknownName(0, name)
            texts[name] = Handler.read(schema, _with_line(texts[name], line)).text
    return System(schema, [Handler.read(schema, text) for text in texts.values()])


def repair(system, offers, *, wishes, able=()):
    """Returns the fewest offers that make all wishes hold while the handlers of a list can still be called."""
    if len(offers) > MOST_OFFERS:
        raise TooMany(0)
    edited(system, offers)
    check_agreements(system.schema, wishes)
    for name in able:
        if name not in system:
            raise UnknownName(0, name)
    tried = []
    for choice in _choices(len(offers)):
        changed = edited(system, [offers[at] for at in choice])
        found = _first_reason(survey(changed), wishes, able)
        if found is None:
            return Repair(choice, changed, tried)
        tried.append((choice, found[0], found[1]))
    return Repair(None, system, tried)


class Repair:
    """The offers that are chosen, by their indexes, and why the choices before do not work."""

    def __init__(self, chosen, system, tried):
        self.chosen = chosen
        self._system = system
        self._tried = list(tried)

    def repaired(self):
        """Returns the system with the chosen offers, or the given one if no choice works."""
        return self._system

    def lesser(self):
        """Yields a tuple of a choice, a reason and a verdict or None for each choice that does not work, in order."""
        for tried in self._tried:
            yield tried


def _is_offer(offer):
    """Tells whether something of any kind is one of the tuples of point 64."""
    if not isinstance(offer, tuple) or not all([_is_line(member) for member in offer]):
        return False
    if len(offer) == 3 and offer[0] == "line":
        word, space, _ = offer[2].partition(" ")
        return space == " " and word in ("need", "set", "each")
    return len(offer) == 4 and offer[0] == "follow"


def _is_line(member):
    return isinstance(member, str) and "\n" not in member


def _with_line(text, line):
    """Returns the text of a handler with a further line at its place."""
    lines = text.split("\n")
    at = len(lines)
    if line.startswith("need "):
        # The other lines of these words all stand before the `need` lines.
        at = len([other for other in lines if other.split(" ")[0] in ("handler", "row", "value", "need")])
    return "\n".join(lines[:at] + [line] + lines[at:])


def _choices(count):
    """Returns all ascending tuples of so many indexes, by their lengths and then in ascending order."""
    found = []
    longest = [()]
    while longest:
        found.extend(longest)
        longest = [(*choice, at) for choice in longest for at in range(count) if not choice or choice[-1] < at]
    return found


def _first_reason(found, wishes, able):
    """Returns the first wish that does not hold and its verdict, or the first handler that can not be called and None.

    Returns None if there is neither.
    """
    for wish in wishes:
        verdict = judge_agreement(found, wish)
        if not verdict:
            return (tuple(wish), verdict)
    for name in able:
        if not found.able(name):
            return (name, None)
    return None
