"""What is a number and a content, how a number is read, and how what is handed in is copied."""

DIGITS = "0123456789"


def is_number(one):
    """Whether it is a number; True and False are none."""
    return isinstance(one, int) and not isinstance(one, bool)


def is_number_to(one, most):
    """Whether it is a number from 0 to most."""
    return is_number(one) and 0 <= one <= most


def is_content(one):
    """Whether it is a row of numbers from 0 on."""
    return isinstance(one, tuple) and all(is_number(number) and number >= 0 for number in one)


def read_number(word, most):
    """The number from 0 to most that the text writes in its one way, or None."""
    # The length is looked at first: Python's int refuses texts of very many digits.
    if not word or len(word) > len(str(most)):
        return None
    if not all(sign in DIGITS for sign in word) or (word[0] == "0" and word != "0"):
        return None
    number = int(word)
    return number if number <= most else None


def copied(one):
    """The same value with lists and dicts of its own, so that no one else can change it."""
    if isinstance(one, list):
        return [copied(part) for part in one]
    if isinstance(one, tuple):
        return tuple([copied(part) for part in one])
    if isinstance(one, dict):
        return {key: copied(one[key]) for key in one}
    return one
