"""A desk: shelves by names, one of them in use, and lines by which deeds are done and things are asked."""

from spanshelf.errors import Full, NoLine, NoName
from spanshelf.giving import places_for
from spanshelf.names import check_name
from spanshelf.nests import loose, nest
from spanshelf.rows import rows_of
from spanshelf.shelf import Shelf, spans_on
from spanshelf.texts import number_from, show_cover, show_shelf
from spanshelf.two import clashes

MOST_SHELVES = 20

# What stands behind the first word of each line: any word as a NAME, a whole number as N.
FORMS = {
    "use": "NAME",
    "twin": "NAME",
    "pour": "NAME",
    "shelves": "",
    "put": "NAME N N N",
    "out": "NAME",
    "move": "NAME N",
    "clip": "NAME N N",
    "weigh": "NAME N",
    "back": "",
    "again": "",
    "names": "",
    "show": "NAME",
    "holders": "N",
    "meeting": "N N",
    "depth": "N",
    "deepest": "",
    "cover": "",
    "room": "N N",
    "text": "",
    "apart": "",
    "rows": "",
    "heaviest": "N",
    "given": "",
    "nest": "",
    "loose": "",
    "clash": "NAME",
}


def words_of(line):
    words = line.split(" ")
    if "" in words:
        raise NoLine("a line is words with one blank between any two, none ahead or behind")
    return words


def told_by(words):
    """Tell what stands behind the first word, with numbers read."""
    if words[0] not in FORMS:
        raise NoLine("no line has this first word")
    kinds = FORMS[words[0]].split()
    if len(words) != len(kinds) + 1:
        raise NoLine("this line has another number of words")
    told = [number_from(word) if kind == "N" else word for kind, word in zip(kinds, words[1:])]
    if None in told:
        raise NoLine("a number is wanted, of at most 12 figures")
    return told


def in_use(desk):
    return desk.shelves[desk.used]


def shelf_called(desk, name):
    if name not in desk.shelves:
        raise NoName("no shelf has this name")
    return desk.shelves[name]


def check_shelf_name(desk, name):
    check_name(name)
    if name not in desk.shelves and len(desk.shelves) >= MOST_SHELVES:
        raise Full("a desk has at most 20 shelves")


def listed(words):
    return " ".join(words) or "none"


def use_shelf(desk, told):
    name = told[0]
    check_shelf_name(desk, name)
    if name not in desk.shelves:
        desk.shelves[name] = Shelf()
    desk.used = name
    return "ok"


def twin_shelf(desk, told):
    name = told[0]
    check_shelf_name(desk, name)
    if name != desk.used:
        desk.shelves[name] = in_use(desk).twin()
    return "ok"


def pour_shelf(desk, told):
    in_use(desk).pour(shelf_called(desk, told[0]))
    return "ok"


def tell_shelves(desk, told):
    return listed(sorted(desk.shelves))


def put_span(desk, told):
    name, low, high, weight = told
    in_use(desk).put(name, (low, high), weight)
    return "ok"


def out_span(desk, told):
    in_use(desk).out(told[0])
    return "ok"


def move_span(desk, told):
    name, by = told
    in_use(desk).move(name, by)
    return "ok"


def clip_span(desk, told):
    name, low, high = told
    in_use(desk).clip(name, (low, high))
    return "ok"


def weigh_span(desk, told):
    name, weight = told
    in_use(desk).weigh(name, weight)
    return "ok"


def take_back(desk, told):
    in_use(desk).back()
    return "ok"


def do_again(desk, told):
    in_use(desk).again()
    return "ok"


def tell_names(desk, told):
    return listed(in_use(desk).names())


def show_row(desk, told):
    shelf = in_use(desk)
    low, high = shelf.span(told[0])
    return f"{low} {high} {shelf.weight(told[0])}"


def tell_holders(desk, told):
    return listed(in_use(desk).holders(told[0]))


def tell_meeting(desk, told):
    low, high = told
    return listed(in_use(desk).meeting((low, high)))


def tell_depth(desk, told):
    return str(in_use(desk).depth(told[0]))


def tell_deepest(desk, told):
    found = in_use(desk).deepest()
    if found is None:
        return "none"
    depth, place = found
    return f"{depth} {place}"


def tell_cover(desk, told):
    return show_cover(in_use(desk).cover()) or "none"


def tell_room(desk, told):
    place, length = told
    return str(in_use(desk).room(place, length))


def tell_text(desk, told):
    return show_shelf(in_use(desk)) or "none"


def tell_apart(desk, told):
    names, pins = in_use(desk).apart()
    return str(len(names))


def tell_rows(desk, told):
    rows, place = rows_of(spans_on(in_use(desk)))
    return str(len(set(rows)))


def tell_heaviest(desk, told):
    shelf = in_use(desk)
    names, prices = shelf.heaviest(told[0])
    return str(sum(shelf.weight(name) for name in names))


def tell_given(desk, told):
    spans = spans_on(in_use(desk))
    return str(len(places_for(spans, list(range(len(spans))))))


def tell_nest(desk, told):
    numbers, levels = nest(spans_on(in_use(desk)))
    return str(len(numbers))


def tell_loose(desk, told):
    numbers, nests = loose(spans_on(in_use(desk)))
    return str(len(numbers))


def tell_clash(desk, told):
    found = clashes(in_use(desk), shelf_called(desk, told[0]))
    return "; ".join([f"{name} {other}" for name, other in found]) or "none"


ACTIONS = {
    "use": use_shelf,
    "twin": twin_shelf,
    "pour": pour_shelf,
    "shelves": tell_shelves,
    "put": put_span,
    "out": out_span,
    "move": move_span,
    "clip": clip_span,
    "weigh": weigh_span,
    "back": take_back,
    "again": do_again,
    "names": tell_names,
    "show": show_row,
    "holders": tell_holders,
    "meeting": tell_meeting,
    "depth": tell_depth,
    "deepest": tell_deepest,
    "cover": tell_cover,
    "room": tell_room,
    "text": tell_text,
    "apart": tell_apart,
    "rows": tell_rows,
    "heaviest": tell_heaviest,
    "given": tell_given,
    "nest": tell_nest,
    "loose": tell_loose,
    "clash": tell_clash,
}


class Desk:
    """Shelves by names; at first one, without spans, whose name is a."""

    def __init__(self):
        self.shelves = {"a": Shelf()}
        self.used = "a"

    def say(self, line):
        """Tell what the line is answered, or refuse it."""
        words = words_of(line)
        told = told_by(words)
        action = ACTIONS[words[0]]
        return action(self, told)
