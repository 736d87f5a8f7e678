"""Texts: how names, numbers and turns are written, on pages, on boards and at the desk."""

LETTERS = "abcdefghijklmnopqrstuvwxyz"
FIGURES = "0123456789"
MOST_FIGURES = 30
# By what a mating's turned is, 0 or 1.
TURNS = ("straight", "turned")


def is_name(text, longest):
    """Whether it is a name of one letter to so many."""
    return 1 <= len(text) <= longest and all([sign in LETTERS for sign in text])


def is_number(text):
    """Whether it is figures, not too many, without a needless nought."""
    if text == "" or len(text) > MOST_FIGURES or not all([sign in FIGURES for sign in text]):
        return False
    return text == "0" or text[0] != "0"


def read_word(kind, word):
    """What a word of this kind ("name", "number" or "turn") tells, or None where it is none."""
    if kind == "number":
        return int(word) if is_number(word) else None
    if kind == "turn":
        return TURNS.index(word) if word in TURNS else None
    # A name that no road can bear is still a word: what it is refused with is not told by how it is written.
    return word if word != "" else None


def read_words(kinds, words):
    """The list of what the words tell, each of its kind, or None where they are not so written."""
    if len(words) != len(kinds):
        return None
    told = [read_word(kind, word) for kind, word in zip(kinds, words)]
    if any([value is None for value in told]):
        return None
    return told
