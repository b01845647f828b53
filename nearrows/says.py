"""What a desk is told: rows of words, each row of a form."""

from nearrows.errors import NoSay
from nearrows.moretexts import whole_of

# For each first word the sorts of the words behind it; a text is all that follows.
FORMS = {
    "shape": ("new", "word"),
    "heap": ("new", "shape", "text"),
    "show": ("heap",),
    "far": ("heap", "number"),
    "covers": ("heap", "number", "number"),
    "reach": ("heap",),
    "near": ("heap", "word"),
    "thin": ("new", "heap", "number"),
    "even": ("shape", "number"),
    "doubled": ("shape", "number"),
    "packed": ("shape", "number"),
    "fewest": ("shape", "number"),
    "apart": ("heap",),
    "leave": ("shape", "text"),
    "moves": ("heap", "heap"),
    "lead": ("new", "heap", "text"),
}


def heard(row):
    """The first word of a row, and the sorts and the parts of what stands behind it, numbers as such."""
    word, *words = words_of(row)
    if word not in FORMS:
        raise NoSay("no word that a desk knows")
    sorts = FORMS[word]
    return (word, sorts, parts_of(sorts, words))


def words_of(row):
    """The words of a row, with just one blank between each two."""
    if not isinstance(row, str):
        raise NoSay("no text")
    words = row.split(" ")
    if "" in words:
        raise NoSay("a blank too many, or no words at all")
    return words


def parts_of(sorts, words):
    """A part of the row for each of the sorts."""
    last = len(sorts) - 1
    if sorts[last] == "text" and len(words) > last:
        words = words[:last] + [" ".join(words[last:])]
    if len(words) != len(sorts):
        raise NoSay("not as many words as are needed")
    parts = [whole_of(word) if sort == "number" else word for sort, word in zip(sorts, words)]
    if None in parts:
        raise NoSay("no number in figures, without needless noughts")
    return parts
