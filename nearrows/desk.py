"""A desk that keeps shapes and heaps by names, and is told rows of words."""

from nearrows.asks import answered, heap_made
from nearrows.errors import NoName
from nearrows.heaptexts import heap_text, read_shape
from nearrows.says import heard

LETTERS = "abcdefghijklmnopqrstuvwxyz"
LONGEST_NAME = 8
DONE = "ok"


class Desk:
    """Shapes by their names, and by its name each heap with the name of its shape."""

    def __init__(self):
        self.shapes = {}
        self.heaps = {}

    def say(self, row):
        """The answer to a row of words."""
        word, sorts, parts = heard(row)
        owners = self.owners_named(sorts, parts)
        if word == "shape":
            return self.keep_shape(parts)
        owner = owners[0]
        shape = self.shapes[owner]
        things = self.things_told(sorts, parts)
        if sorts[0] != "new":
            return answered(word, shape, things)
        heap = heap_made(word, shape, things)
        self.forget(parts[0])
        self.heaps[parts[0]] = (owner, heap)
        return DONE if word == "heap" else heap_text(shape, heap)

    def owners_named(self, sorts, parts):
        """The names of the shapes of all that is named; refuse names that do not fit."""
        owners = [self.owner(sort, part) for sort, part in zip(sorts, parts) if sort in ("shape", "heap")]
        if None in owners:
            raise NoName("nothing of that sort stands by the name")
        if len(set(owners)) > 1:
            raise NoName("heaps of two shapes' names")
        # Nothing ever stands by what is no name, so that only new ones are looked at.
        if sorts[0] == "new" and (not is_name(parts[0]) or parts[0] in owners):
            raise NoName("no name, or that of the heap's shape")
        return owners

    def owner(self, sort, name):
        """The name of the shape that is named, or of the named heap's shape; None where nothing stands."""
        if sort == "shape":
            return name if name in self.shapes else None
        return self.heaps[name][0] if name in self.heaps else None

    def things_told(self, sorts, parts):
        """The heaps that are named, the numbers and the texts."""
        return [
            self.heaps[part][1] if sort == "heap" else part
            for sort, part in zip(sorts, parts) if sort not in ("new", "shape")
        ]

    def keep_shape(self, parts):
        """Keep a shape by a new name."""
        name, text = parts
        shape = read_shape(text)
        self.forget(name)
        self.shapes[name] = shape
        return DONE

    def forget(self, name):
        """Let go what stands by the name, and with a shape its heaps."""
        self.shapes = {other: shape for other, shape in self.shapes.items() if other != name}
        self.heaps = {other: kept for other, kept in self.heaps.items() if name not in (other, kept[0])}


def is_name(word):
    """Whether this is a name."""
    return 1 <= len(word) <= LONGEST_NAME and all([letter in LETTERS for letter in word])
