"""What the kinds of things that are handed in have in common."""


# Python counts truths among the ints; here they are no whole numbers.
def is_whole(thing):
    return isinstance(thing, int) and not isinstance(thing, bool)


def is_whole_within(thing, least, most):
    return is_whole(thing) and least <= thing <= most
