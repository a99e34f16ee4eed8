"""What the modules have in common to tell what is a whole number and what is a list of some length."""


def is_whole(value):
    # Python takes True and False for 1 and 0; here they are no numbers.
    return isinstance(value, int) and not isinstance(value, bool)


def is_whole_within(value, least, most):
    # The kind is asked first, so that what can't be compared never is.
    return is_whole(value) and least <= value <= most


def is_list_within(value, least, most):
    return isinstance(value, list) and least <= len(value) <= most
