"""Which things are whole numbers, and which of these are sixteenths."""


# Python counts True and False as numbers; the document does not.
def is_whole(thing):
    return isinstance(thing, int) and not isinstance(thing, bool)


def is_sixteenth(thing):
    return is_whole(thing) and 0 <= thing <= 16
