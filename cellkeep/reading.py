"""Reading: a program's text as a list of statements."""

from cellkeep.errors import NoProgram
from cellkeep.notes import numbers_of

# What stands behind each statement's word; no name is called like one of these words.
PARTS_BEHIND = {
    "make": ("name", "number"), "keep": ("name", "number"), "copy": ("name", "name"), "drop": ("name",),
    "get": ("name", "name", "number"), "set": ("name", "number", "name"), "tell": ("name",),
    "again": ("number",), "if": ("name",), "end": (),
}
LETTERS = "abcdefghijklmnopqrstuvwxyz"
MOST_LETTERS = 8
MOST_NAMES = 42
MOST_TIMES = 9
MOST_DEEP = 3


def program_of(text):
    if not isinstance(text, str):
        raise NoProgram("a program is a text")
    program = []
    # The program itself, and behind it the blocks that are not ended yet, each within the one ahead.
    blocks = [program]
    for line in lines_of(text):
        add_statement(blocks, statement_of(line))
    if len(blocks) > 1:
        raise NoProgram("a block is not ended")
    if len(names_of(program)) > MOST_NAMES:
        raise NoProgram("the program has too many names")
    return program


def lines_of(text):
    return [] if text == "" else text.split("\n")


def add_statement(blocks, statement):
    if statement[0] == "end":
        blocks.pop()
        if blocks == []:
            raise NoProgram("an end without a block")
        return
    blocks[-1].append(statement)
    if is_block(statement):
        blocks.append(statement[2])
        if len(blocks) - 1 > MOST_DEEP:
            raise NoProgram("blocks stand too deep within one another")


def is_block(statement):
    return statement[0] in ("again", "if")


def statement_of(line):
    """The statement of a line, with an empty block where it begins one."""
    parts = line.split(" ")
    word = parts[0]
    if word not in PARTS_BEHIND or len(parts) - 1 != len(PARTS_BEHIND[word]):
        raise NoProgram("no statement is written so")
    behind = [part_of(wanted, text) for wanted, text in zip(PARTS_BEHIND[word], parts[1:])]
    if word == "again" and not 0 <= behind[0] <= MOST_TIMES:
        raise NoProgram("a block is not done so often")
    statement = tuple([word] + behind)
    if is_block(statement):
        return statement + ([],)
    return statement


def part_of(wanted, text):
    if wanted == "name":
        if not is_name(text):
            raise NoProgram("no name is written so")
        return text
    numbers = numbers_of([text])
    if numbers is None:
        raise NoProgram("no number is written so")
    return numbers[0]


def is_name(text):
    if text in PARTS_BEHIND or not 1 <= len(text) <= MOST_LETTERS:
        return False
    return all([sign in LETTERS for sign in text])


def names_of(program):
    found = {}
    note_names(program, found)
    return list(found)


def note_names(block, found):
    for statement in block:
        for name in names_in(statement):
            found[name] = True
        if is_block(statement):
            note_names(statement[2], found)


def names_in(statement):
    behind = PARTS_BEHIND[statement[0]]
    return [part for wanted, part in zip(behind, statement[1:]) if wanted == "name"]
