"""How the words of a sheet are read and written; a word that isn't so written is read as None."""

from mergetree.likening import is_key

MOST_NAME = 8
MOST_KEY = 40
MOST_FIGURES = 9

# The least and the most of each kind of number.
BOUNDS = {"room": (1, 16), "ways": (2, 6), "size": (0, 999999999), "many": (0, 1000000)}

NOTHING = "-"


def read_word(kind, word):
    """The name, key or number that a word of this kind tells."""
    if kind == "name":
        return read_name(word)
    if kind == "key":
        return read_key(word)
    least, most = BOUNDS[kind]
    return read_number(word, least, most)


def read_name(word):
    """The name that a word tells."""
    return word if is_key(word) and 1 <= len(word) <= MOST_NAME else None


def read_key(word):
    """The key that a word tells."""
    if word == NOTHING:
        return ""
    return word if is_key(word) and 1 <= len(word) <= MOST_KEY else None


def read_number(word, least, most):
    """The number from least to most that a word tells."""
    if not are_figures(word) or len(word) > MOST_FIGURES:
        return None
    if word[0] == "0" and word != "0":
        return None
    number = int(word)
    return number if least <= number <= most else None


def are_figures(word):
    """Whether a word is one or more plain figures."""
    for sign in word:
        # Python's own asking for figures takes other scripts' too.
        if sign < "0" or sign > "9":
            return False
    return word != ""


def written_key(key):
    """A key as a sheet has it."""
    return key if key != "" else NOTHING


def written_thing(name, key):
    """A thing, or a row's head, as a sheet has it; key None of a row that sends nothing."""
    return f"{name}:." if key is None else f"{name}:{written_key(key)}"


def with_blanks(words):
    """Words parted by blanks, or what stands for nothing at all."""
    return " ".join(words) if len(words) > 0 else NOTHING


def written_numbers(numbers):
    """Numbers parted by blanks, or what stands for nothing at all."""
    return with_blanks([str(number) for number in numbers])
