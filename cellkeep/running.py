"""Running: a program done on a keeper."""

from cellkeep.errors import KeepError
from cellkeep.frames import begun, deeds_of, loaded
from cellkeep.keeper import Keeper
from cellkeep.playing import answer_of, refusal_of
from cellkeep.reading import is_block, names_of, program_of

HANDS = 3
MOST_STEPS = 100


class TooLong(KeepError):
    """One statement more would begin than a run has."""


class Runner:

    def __init__(self, known, keeper):
        self.known = known
        self.keeper = keeper
        self.answers = []
        self.steps = 0

    def do_program(self, program):
        try:
            self.do_deeds(begun(self.known))
            self.do_block(program)
        except TooLong:
            self.answers.append("too long")
        except KeepError as error:
            self.answers.append(refusal_of(error))

    def do_block(self, block):
        for statement in block:
            if is_block(statement):
                for turn in range(self.times(statement)):
                    self.do_block(statement[2])
            else:
                self.do_statement(statement)

    def times(self, statement):
        """How often a block is done."""
        if statement[0] == "again":
            return statement[1]
        self.do_deeds(loaded(self.known, statement[1], 1))
        held = self.keeper.read(1)
        return 0 if held is None or held == 0 else 1

    def do_statement(self, statement):
        if self.steps == MOST_STEPS:
            raise TooLong("one statement more would begin")
        self.steps = self.steps + 1
        told = self.do_deeds(deeds_of(self.known, statement))
        if statement[0] == "tell":
            self.answers.append(told[-1])

    def do_deeds(self, deeds):
        return [answer_of(self.keeper, deed) for deed in deeds]


def run(text, old_words, young_words):
    program = program_of(text)
    runner = Runner(names_of(program), Keeper(HANDS, old_words, young_words))
    runner.do_program(program)
    return runner.answers
