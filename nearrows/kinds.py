"""What kind of thing something is: whole numbers, and tuples of a told form."""


def is_whole(thing):
    """Whether this is a whole number."""
    # Python takes True and False for ints, the document does not.
    return isinstance(thing, int) and not isinstance(thing, bool)


def is_whole_from(thing, least):
    """Whether this is a whole number from least on."""
    return is_whole(thing) and thing >= least


def is_whole_within(thing, least, most):
    """Whether this is a whole number from least up to most."""
    return is_whole_from(thing, least) and thing <= most


def is_tuple_of(thing, many):
    """Whether this is a tuple of so many things."""
    return isinstance(thing, tuple) and len(thing) == many


def is_some_tuple(thing):
    """Whether this is a tuple of one thing at least."""
    return isinstance(thing, tuple) and len(thing) > 0


def is_worded(thing):
    """Whether this is a tuple that begins with a text."""
    # Only a text is compared with words: other things may have an equality of their own.
    return is_some_tuple(thing) and isinstance(thing[0], str)
