"""Systems that several tests need."""

from ownersagree.handlers import Handler
from ownersagree.schemas import Schema
from ownersagree.systems import System

PROJECTS = "root project owner\ntable task project owner\nowner task owner"
START = "handler start\nnew p in project with me"
PLAN = "handler plan\nrow p in project\nneed p.owner = me\nnew t in task under p with me"
GIVE = "handler give\nrow p in project\nvalue u\nneed p.owner = me\nset p.owner = u\neach task below p sets owner = u"
BAD_GIVE = "handler give\nrow p in project\nvalue u\nneed p.owner = me\nset p.owner = u"

BOXES = "root box a b c\ntable link box x y"
LEFT = "handler left\nvalue u\nvalue v\nnew n in box with u u v"
RIGHT = "handler right\nvalue u\nvalue v\nnew n in box with u v v"
COPY = "handler copy\nrow p in box\nneed p.a = p.c\nnew n in link under p with p.b p.a"


def system_of(schema_text, *texts):
    schema = Schema.read(schema_text)
    return System(schema, [Handler.read(schema, text) for text in texts])


def projects(give=GIVE):
    """The system of point 67, with a good or a bad last handler."""
    return system_of(PROJECTS, START, PLAN, give)


def boxes():
    """The system of point 68."""
    return system_of(BOXES, LEFT, RIGHT, COPY)


def grid(counts, *more, table="t"):
    """A system over one table with a column for each count, which can have all combinations of so many constants.

    The names of its handlers begin with the name of the table.
    """
    columns = [f"c{index}" for index in range(len(counts))]
    return system_of(f"root {table} " + " ".join(columns), *grid_texts(counts, table), *more)


def grid_texts(counts, table):
    texts = [f"handler {table}start\nnew n in {table} with " + " ".join("'k0'" for _ in counts)]
    for index, count in enumerate(counts):
        for number in range(1, count):
            texts.append(f"handler {table}{index}x{number}\nrow r in {table}\nset r.c{index} = 'k{number}'")
    return texts


def ladder(steps):
    """A system in which rows of two kinds climb together, until one of them goes on alone for some steps.

    In the end its flag is no more its kind: this takes 95 + steps calls.
    """
    texts = ["handler make\nnew p in t with 'p' 'l0' 'p'\nnew q in t with 'q' 'l0' 'q'"]
    kinds = "row r in t\nrow s in t\nneed r.kind = 'p'\nneed s.kind = 'q'"
    for level in range(5):
        texts.append(f"handler up{level}\n{kinds}\nneed r.level = 'l{level}'\nneed s.level = 'l{level}'\n"
                     f"set r.level = 'l{level + 1}'\nset s.level = 'l{level + 1}'")
    texts.append(f"handler meet\n{kinds}\nneed r.level = 'l5'\nneed s.level = 'l4'\nset r.level = 'm0'")
    for step in range(steps):
        flag = "\nset r.flag = 'z'" if step == steps - 1 else ""
        texts.append(f"handler go{step}\nrow r in t\nneed r.level = 'm{step}'\nset r.level = 'm{step + 1}'{flag}")
    return system_of("root t kind level flag\nowner t flag", *texts)
