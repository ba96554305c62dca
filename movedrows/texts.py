"""Texts of ways, rules and weavings: how they are written, and how they are read."""

from movedrows.errors import ParseError
from movedrows.forms import is_step
from movedrows.parts import is_between
from movedrows.rules import RULES
from movedrows.ways import RANGES, WAY_PARTS

# The words of the parts of a way, of the kinds, of what is found, and of the actions, by their numbers.
PART_WORDS = ("lanes", "first", "lag", "marks", "slips", "press", "wipe", "picture", "peeks")
KIND_WORDS = ("strike", "row", "absent")
FOUND_WORDS = ("empty", "elder", "fresh")
ACTION_WORDS = ("leave", "lay", "move", "drop", "both", "other")

DIGITS = "0123456789"

# No integer in a text has more digits: more of them are not read.
MOST_DIGITS = 3


def text_of(lines):
    """Return the text of the lines, each with its line end."""
    return "".join([line + "\n" for line in lines])


def asking_words(index):
    """Return the three words that ask the rule with the index: the kind, what is found under its key and the other."""
    return KIND_WORDS[index // 9] + " " + FOUND_WORDS[index // 3 % 3] + " " + FOUND_WORDS[index % 3]


def format_way(way):
    """Return the text of the way."""
    return text_of([word + " " + str(part) for word, part in zip(PART_WORDS, way)])


def format_rules(rules):
    """Return the text of the rules."""
    return text_of([asking_words(index) + " " + ACTION_WORDS[action] for index, action in enumerate(rules)])


def format_weaving(weaving):
    """Return the text of the weaving."""
    return text_of([" ".join([str(part) for part in step]) for step in weaving])


def read_number(text):
    """Return the integer that is written so, or None if it is none."""
    if text == "" or len(text) > MOST_DIGITS or not all([digit in DIGITS for digit in text]):
        return None
    return int(text) if text == "0" or text[0] != "0" else None


def read_way_line(index, line):
    """Return the part of a way that the line with the index says, or None if it says none."""
    if index >= WAY_PARTS:
        return None
    word, _, told = line.partition(" ")
    part = read_number(told)
    least, greatest = RANGES[index]
    return part if word == PART_WORDS[index] and is_between(part, least, greatest) else None


def read_rules_line(index, line):
    """Return the action that the line with the index says, or None if it says none."""
    if index >= RULES:
        return None
    asking, _, word = line.rpartition(" ")
    if asking != asking_words(index) or word not in ACTION_WORDS:
        return None
    return ACTION_WORDS.index(word)


def read_step(index, line):
    """Return the step that a line says, whatever its index, or None if it says none."""
    word, *told = line.split(" ")
    step = (word,) + tuple([read_number(part) for part in told])
    return step if is_step(step) else None


def read_lines(text, read_line):
    """Return a list of what the lines of the text say; read_line(index, line) is None for a line that cannot be there.

    Raise ParseError with the index of the first such line, or else, if something stands behind the last line
    end, with the number of line ends.
    """
    lines = text.split("\n")
    told = []
    for index, line in enumerate(lines[:-1]):
        said = read_line(index, line)
        if said is None:
            raise ParseError(index)
        told.append(said)
    if lines[-1] != "":
        raise ParseError(len(told))
    return told


def required(told, many):
    """Return what the lines say as a tuple; raise ParseError if there are fewer than so many."""
    if len(told) < many:
        raise ParseError(len(told))
    return tuple(told)


def parse_way(text):
    """Return the way that the text says; raise ParseError for any other text."""
    return required(read_lines(text, read_way_line), WAY_PARTS)


def parse_rules(text):
    """Return the rules that the text says; raise ParseError for any other text."""
    return required(read_lines(text, read_rules_line), RULES)


def parse_weaving(text):
    """Return the weaving that the text says, whether it can be walked or not; raise ParseError for any other text."""
    return tuple(read_lines(text, read_step))
