"""What a whole number and a name are."""

LONGEST_NAME = 8


def is_whole(thing):
    """Whether this is a whole number, of whatever it is."""
    return isinstance(thing, int) and not isinstance(thing, bool)


def is_name(thing):
    """Whether this is a name, of whatever it is."""
    if not isinstance(thing, str) or not 1 <= len(thing) <= LONGEST_NAME:
        return False
    # Not islower or isalpha: these let letters of other alphabets by.
    return all(["a" <= sign <= "z" for sign in thing])
