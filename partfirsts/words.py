"""What a name and a number are."""


def is_name(value):
    """Whether the value is a string of 1 to 8 lowercase letters."""
    return (
        isinstance(value, str)
        and 1 <= len(value) <= 8
        and all(["a" <= sign <= "z" for sign in value])
    )


def is_whole(value):
    """Whether the value is an integer, no boolean."""
    return isinstance(value, int) and not isinstance(value, bool)


def is_number(value, least, most):
    """Whether the value is an integer, no boolean, from least to most."""
    return is_whole(value) and least <= value <= most
