"""Scripts: the histories that verdicts tell (point 54)."""

from ownersagree.handlers import Handler
from ownersagree.lines import size_of
from ownersagree.stories import Story, check_size


class Script:
    """A history that shows how a doubt goes wrong: it builds a row for each line, and then calls the handler, if any.

    No value in it is one of the avoided constants, if nothing says so.
    """

    def __init__(self, doubt, lines, avoided):
        self._doubt = doubt
        self._lines = list(lines)
        self._avoided = list(avoided) + doubt.fixed()
        self.size = size_of(lines) + (1 if isinstance(doubt.subject, Handler) else 0)

    def told(self):
        """Returns the calls, the address of the row in question, and what the subject is asked with, if any."""
        check_size(self.size)
        doubt = self._doubt
        story = Story(doubt.setting.schema, self._avoided)
        strands = [story.build(line) for line in self._lines]
        made = {}
        cast = None
        if doubt.subject is not None:
            cast = story.cast(doubt.subject, doubt.setting, doubt.pairs, strands)
        if isinstance(doubt.subject, Handler):
            made = story.add_call(doubt.subject, cast)
        # Values are given in the order of the calls, so that each part of what is told speaks of the same ones.
        calls = story.calls()
        arguments = None if cast is None else story.arguments(doubt.subject, cast)
        return (calls, self._address(strands, made), arguments)

    def _address(self, strands, made):
        shown = self._doubt.shown
        if isinstance(shown, str):
            return made[shown]
        piece, height = shown
        return strands[piece].rows[height]
