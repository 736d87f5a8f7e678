"""The desk: lines of words that do deeds in a hall and ask its very roads."""

from farmates.errors import BadLine, FarError, Missing, NothingLeft
from farmates.texts import read_words


# By the first word of a line the kinds of all that stand behind it.
DEEDS = {
    "lay": ("name", "number"),
    "clear": ("name",),
    "copy": ("name", "name"),
    "mate": ("name", "number", "number", "number", "turn"),
    "strike": ("name", "number"),
    "grow": ("name", "number"),
    "trim": ("name", "number"),
    "swell": ("name", "number"),
    "behind": ("name", "name"),
    "undo": (),
    "redo": (),
}
QUESTIONS = {
    "count": ("name",),
    "least": ("name", "number"),
    "size": ("name", "number"),
    "rank": ("name", "number"),
    "family": ("name", "number"),
    "kin": ("name", "number", "number"),
    "meeting": ("name", "number", "number"),
    "inside": ("name", "number", "number", "number"),
    "implies": ("name", "number", "number", "number", "turn"),
}


def read_line(line):
    """The first word of a line, and the list of what the ones behind it tell."""
    first, *words = line.split(" ")
    kinds = QUESTIONS.get(first, DEEDS.get(first))
    if kinds is None:
        raise BadLine()
    told = read_words(kinds, words)
    if told is None:
        raise BadLine()
    return (first, told)


def ask_of(road, question, told):
    """What the road tells; told is what stands behind its name in the question."""
    if question == "count":
        return road.count()
    if question == "least":
        return road.least(told[0])
    if question == "size":
        return road.size(told[0])
    if question == "rank":
        return road.rank(told[0])
    if question == "family":
        return road.family(told[0])
    if question == "kin":
        return road.kin(told[0], told[1])
    if question == "meeting":
        return road.meeting(told[0], told[1])
    if question == "inside":
        return road.inside(told[0], told[1], told[2])
    one, other, many, turned = told
    return road.implies(one, other, many, turned=turned)


def written(worth):
    """A number, or yes or no."""
    if isinstance(worth, bool):
        return "yes" if worth else "no"
    return str(worth)


class Desk:
    """Does lines in a hall, and keeps them with their answers."""

    def __init__(self, hall):
        self.hall = hall
        self.depth = 0
        self.said = []

    def say(self, line):
        """Do the line; its answer."""
        self.depth += 1
        try:
            answer = self.answer(line)
        finally:
            self.depth -= 1
        self.said.append((line, answer))
        return answer

    def log(self):
        """The list of all pairs (line, answer) so far."""
        return list(self.said)

    def answer(self, line):
        """The answer to a line, the refusal's word where what it tells is refused."""
        first, told = read_line(line)
        try:
            return self.carried_out(first, told)
        except (FarError, Missing, NothingLeft) as refusal:
            return refusal.word

    def carried_out(self, first, told):
        """Do the deed or ask the question of this first word."""
        if first in QUESTIONS:
            return written(ask_of(self.hall.very(told[0]), first, told[1:]))
        if first == "undo":
            self.hall.undo()
        elif first == "redo":
            self.hall.redo()
        else:
            self.hall.do((first, *told))
        return "done"
