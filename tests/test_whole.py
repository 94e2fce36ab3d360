"""[1] and the interface: what holds over the whole program."""

import importlib
import inspect
import random

from cellkeep.frames import begun, deeds_of
from cellkeep.image import image_of, keeper_of
from cellkeep.keeper import Keeper
from cellkeep.notes import deed_of, line_of
from cellkeep.picture import picture
from cellkeep.playing import answer_to, played
from cellkeep.reading import names_of, program_of
from cellkeep.running import run
from tests.helper import KeepTest, some_lines

# Modules, from each name to its parameters; of a class also its fields and its methods with theirs.
FUNCTIONS = {
    "words": {"number_word": "n", "place_word": "at", "kind": "word", "worth": "word"},
    "cells": {
        "lay": "memory at slots", "slots_of": "memory at", "age_of": "memory at", "words_of": "memory at",
        "aged": "memory at age", "slot_place": "memory at slot", "children": "memory at", "send": "memory at goal",
        "sent_to": "memory at",
    },
    "copying": {"copied": "memory at space age", "moved": "memory word"},
    "young": {"collect_young": "areas roots"},
    "marking": {"reached": "memory starts"},
    "sliding": {"goals": "areas kept", "collect_all": "areas roots"},
    "picture": {"picture": "areas roots"},
    "sound": {"faults": "areas roots"},
    "notes": {"line_of": "deed", "deed_of": "line"},
    "playing": {"played": "hands old_words young_words lines"},
    "image": {"image_of": "keeper", "keeper_of": "lines"},
    "reading": {"program_of": "text", "names_of": "program"},
    "frames": {"begun": "names", "loaded": "names name hand", "stored": "names name", "deeds_of": "names statement"},
    "running": {"run": "text old_words young_words"},
}
CLASSES = {
    ("memory", "Memory"): ("size", [9], "size", {"read": "at", "write": "at word", "copy": "start goal many"}),
    ("spaces", "Space"): ("begin end", [2, 9], "begin end top", {
        "room": "", "used": "", "has": "at", "take": "many", "empty": "", "cut": "top", "cells": "memory",
    }),
    ("areas", "Areas"): ("old_words young_words", [9, 9], "memory old young spare", {
        "flip": "", "area_of": "at", "lay_young": "slots", "lay_old": "slots",
    }),
    ("hands", "Hands"): ("many", [2], "", {"get": "hand", "put": "hand word", "row": ""}),
    ("book", "Book"): ("", [], "", {"write": "place", "rub": "place", "has": "place", "places": "", "clear": ""}),
    ("weak", "Weak"): ("", [], "", {"name": "at", "at": "name", "move": "name at", "gone": "name", "names": ""}),
    ("lasts", "Lasts"): ("", [], "", {
        "give": "at number", "pending": "", "move": "ticket at", "say": "ticket", "said": "",
    }),
    ("roots", "Roots"): ("many", [2], "hands book weaks lasts", {"starts": ""}),
    ("heap", "Heap"): ("hands old_words young_words", [2, 9, 9], "areas roots", {
        "make": "hand slots", "held": "hand", "hold": "hand word", "drop": "hand", "cell_of": "hand", "get": "hand slot",
        "put": "hand slot word",
    }),
    ("keeper", "Keeper"): ("hands old_words young_words", [2, 9, 9], "heap", {
        "make": "hand slots", "keep": "hand number", "share": "hand other", "drop": "hand", "read": "hand",
        "take": "hand other slot", "put": "hand slot other", "name_cell": "hand", "find": "name hand",
        "give_last": "hand number", "tidy": "", "tidy_all": "", "said": "", "used": "", "unsound": "",
    }),
}
VALUES = {("words", "NOTHING"): -1, ("cells", "MOST_SLOTS"): 8}


def module(name):
    return importlib.import_module("cellkeep." + name)


class InterfaceTest(KeepTest):

    def test_functions(self):
        for name, functions in FUNCTIONS.items():
            for function, parameters in functions.items():
                self.assert_parameters(getattr(module(name), function), parameters.split())

    def test_classes(self):
        for (name, called), (parameters, values, fields, methods) in CLASSES.items():
            made = getattr(module(name), called)
            self.assertTrue(inspect.isclass(made))
            self.assert_parameters(made, parameters.split())
            thing = made(*values)
            for field in fields.split():
                self.assertFalse(callable(getattr(thing, field)))
            for method, wanted in methods.items():
                self.assert_parameters(getattr(thing, method), wanted.split())

    def test_values(self):
        for (name, called), value in VALUES.items():
            self.assert_whole(getattr(module(name), called), value)


class PlayedTest(KeepTest):

    def test_lines_are_played_as_a_keeper_does_them(self):
        for seed in range(30):
            rng = random.Random(seed)
            hands, old, young = rng.randint(1, 6), rng.randint(4, 80), rng.randint(2, 40)
            lines = some_lines(rng, hands)
            keeper = Keeper(hands, old, young)
            self.assertEqual(played(hands, old, young, lines), [answer_to(keeper, line) for line in lines])
            self.assertEqual(keeper.unsound(), [])
            self.assertLessEqual(keeper.used(), old)

    def test_collections_are_not_seen_by_hands(self):
        # Answers to reads are the same, whatever the young halves are, where room is never lacking.
        for seed in range(30):
            lines = [line for line in some_lines(random.Random(seed), 4)
                     if deed_of(line)[0] not in ("find", "said")]
            told = [played(4, 1000, young, lines) for young in [2, 3, 7, 20, 500]]
            self.assertEqual(told, [told[0]] * 5)

    def test_an_image_between_any_two_lines(self):
        for seed in range(10):
            rng = random.Random(seed)
            hands, old, young = rng.randint(1, 6), rng.randint(4, 80), rng.randint(2, 40)
            lines = some_lines(rng, hands)
            keeper, told = Keeper(hands, old, young), []
            for line in lines:
                seen = picture(keeper.heap.areas, keeper.heap.roots)
                keeper = keeper_of(image_of(keeper))
                self.assertEqual(picture(keeper.heap.areas, keeper.heap.roots), seen)
                told.append(answer_to(keeper, line))
            self.assertEqual(told, played(hands, old, young, lines))


class RunTest(KeepTest):

    def test_a_run_is_its_deeds_played(self):
        refusals = 0
        for seed in range(60):
            rng = random.Random(seed)
            names = "abcdefghij"[:rng.choice([2, 4, 10])]
            text = "\n".join(self.line(rng, names) for many in range(rng.randint(0, 40)))
            old, young = rng.randint(18, 60), rng.randint(2, 30)
            program = program_of(text)
            named = names_of(program)
            deeds = begun(named)
            for statement in program:
                deeds += deeds_of(named, statement)
            answers = played(3, old, young, [line_of(deed) for deed in deeds])
            wanted = []
            for deed, answer in zip(deeds, answers):
                if deed[0] == "read" or answer != "done":
                    wanted.append(answer)
                if deed[0] != "read" and answer != "done":
                    refusals += 1
                    break
            self.assertEqual(run(text, old, young), wanted)
        self.assertGreater(refusals, 20)

    def line(self, rng, names):
        a, b, slot = rng.choice(names), rng.choice(names), rng.randint(0, 2)
        return rng.choice([
            f"make {a} {rng.randint(2, 8)}", f"make {a} 4", f"keep {a} {slot}", f"copy {a} {b}", f"drop {a}",
            f"get {a} {b} {slot}" if rng.random() < 0.3 else f"make {a} 3\nget {b} {a} {slot}",
            f"make {a} 3\nset {a} {slot} {b}", f"tell {a}", f"tell {b}",
        ])
