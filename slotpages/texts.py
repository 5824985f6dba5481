"""What the texts of pages and of steps have in common: rows, words and numbers."""

MOST_FIGURES = 3
# The word for what is not there: the next of a slot, the values of a row.
NOTHING = "-"


def text_of(rows):
    """The text of rows, each a list of words."""
    return "\n".join([" ".join(words) for words in rows])


def rows_of(text):
    """The rows of a text. The empty text has none, where a split would tell an empty one."""
    return text.split("\n") if text else []


def number_of(word):
    """The number that a word tells, of one to three figures and none needless; None if it tells none."""
    if not word.isascii() or not word.isdigit() or len(word) > MOST_FIGURES:
        return None
    number = int(word)
    return number if str(number) == word else None


def numbers_of(words):
    """The tuple of what number_of tells of some words."""
    return tuple([number_of(word) for word in words])
