"""What is sent between two views, as a row and as a text."""

from snapshelf.between import told_between
from snapshelf.deeds import is_deed
from snapshelf.errors import NoName, NoSent
from snapshelf.names import read_path, written_path
from snapshelf.tally import MODULUS, tally_of
from snapshelf.things import MOST_LEAVES
from snapshelf.values import is_number_to, read_number

MOST_DEEDS = 1000


def is_sent(one):
    """Whether it, whatever is handed in, is what may be sent."""
    if not isinstance(one, tuple) or len(one) != 4 or one[0] != "sent":
        return False
    word, first, deeds, second = one
    if not is_number_to(first, MODULUS - 1) or not is_number_to(second, MODULUS - 1):
        return False
    return isinstance(deeds, tuple) and len(deeds) <= MOST_DEEDS and all(is_deed(deed) for deed in deeds)


def sent_of(first, second):
    """What is sent from the first view to the second; NoSent, if it takes too many deeds."""
    deeds = told_between(first, second)
    if len(deeds) > MOST_DEEDS:
        raise NoSent()
    return ("sent", tally_of(first), tuple(deeds), tally_of(second))


def written_deed(deed):
    """The deed as a text."""
    words = [deed[0], written_path(deed[1])]
    if deed[0] in ("move", "copy"):
        words.append(written_path(deed[2]))
    if deed[0] in ("put", "trim"):
        words.append(str(deed[2]))
    if deed[0] == "put":
        words.extend([str(number) for number in deed[3]])
    return " ".join(words)


def written_sent(sent):
    """What is sent as a text on one line."""
    word, first, deeds, second = sent
    return ";".join([f"{word} {first}", *[written_deed(deed) for deed in deeds], str(second)])


def read_deed(text):
    """The deed that the text writes; NoSent for whatever writes none."""
    if not isinstance(text, str):
        raise NoSent()
    words = text.split(" ")
    if len(words) < 2:
        raise NoSent()
    rest = rest_of_deed(words[0], words[2:])
    deed = (words[0], path_of_word(words[1]), *rest)
    if not is_deed(deed):
        raise NoSent()
    return deed


def rest_of_deed(word, words):
    """What stands behind a deed's path, read from the words behind it; NoSent, where they are no such words."""
    if word in ("move", "copy"):
        return [path_of_word(each) for each in words]
    if word == "trim":
        return [number_of_word(each, MOST_LEAVES) for each in words]
    if word == "put" and words:
        return [number_of_word(words[0], MOST_LEAVES), tuple([number_of_word(each, 255) for each in words[1:]])]
    return words


def path_of_word(word):
    """The path that the word writes, or NoSent."""
    try:
        return read_path(word)
    except NoName:
        raise NoSent() from None


def number_of_word(word, most):
    """The number to most that the word writes, or NoSent."""
    number = read_number(word, most)
    if number is None:
        raise NoSent()
    return number


def read_sent(text):
    """What is sent, read from a text; NoSent for whatever writes nothing that is sent."""
    if not isinstance(text, str):
        raise NoSent()
    parts = text.split(";")
    word, blank, first = parts[0].partition(" ")
    # The last part is the second tally, so there are two parts at the least.
    if word != "sent" or not 2 <= len(parts) <= MOST_DEEDS + 2:
        raise NoSent()
    deeds = tuple([read_deed(part) for part in parts[1:-1]])
    return (word, number_of_word(first, MODULUS - 1), deeds, number_of_word(parts[-1], MODULUS - 1))
