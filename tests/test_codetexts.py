"""Texts of code: [43]."""

import re

from samewords.codes import is_code
from samewords.codetexts import read_code, write_code
from samewords.errors import BadCode, BadText
from tests.helper import Case, any_things, by_lot, not_codes
from tests.test_codes import RIGHT

NUMBER = "(0|[1-9][0-9]*)"
ROWS = {"input": (NUMBER, "([a-z]+)"), "set": (NUMBER,) * 2, "copy": (NUMBER,) * 2, "add": (NUMBER,) * 3,
        "sub": (NUMBER,) * 3, "mul": (NUMBER,) * 3, "neg": (NUMBER,) * 2, "shl": (NUMBER,) * 3, "store": (NUMBER,) * 2,
        "load": (NUMBER,) * 2, "out": (NUMBER,) * 2, "loop": (NUMBER,) * 2, "again": ()}
TEXT = """input 0 x
set 15 18446744073709551615
set 15 0
copy 1 0
add 2 0 15
sub 2 15 2
mul 3 2 2
neg 3 3
shl 3 3 64
shl 3 3 0
store 255 3
store 0 15
load 4 255
load 15 0
input 2 abc
loop 5 5
add 4 4 5
again
loop 0 1
loop 1 0
loop 2 1
input 3 x
again
again
again
out 7 15
out 0 3
loop 15 15
again"""


def slow_read(text):
    """The rows of a text as a tuple, or the number of the first row that is not so written."""
    found = []
    for number, row in enumerate(text.split("\n"), start=1):
        word = row.split(" ")[0]
        match = re.fullmatch(" ".join((word,) + ROWS[word]), row) if word in ROWS else None
        if match is None:
            return number
        found.append((word,) + tuple(int(item) if item.isdigit() else item for item in match.groups()))
    return tuple(found)


class CodeTexts(Case):
    def judged(self, text):
        """Read a text by the document, and tell how it went."""
        found = slow_read(text)
        if isinstance(found, int):
            self.fails(BadText, found, read_code, text)
            return "text"
        if is_code(found):
            self.assertEqual(read_code(text), found)
            return "code"
        with self.assertRaises(BadCode) as caught:
            read_code(text)
        self.fails(BadCode, caught.exception.value, write_code, found)
        return "wrong"

    def test_each_instruction(self):
        self.assertEqual(write_code(RIGHT), TEXT)
        self.assertEqual(read_code(TEXT), RIGHT)
        for instruction in RIGHT[:15]:
            self.assertEqual(read_code(write_code((instruction,))), (instruction,))

    def test_names(self):
        self.assertEqual(read_code("input 0 abcdefgh"), (("input", 0, "abcdefgh"),))
        self.assertEqual(read_code("input 0 again\ninput 1 input"), (("input", 0, "again"), ("input", 1, "input")))
        for name in ("abcdefghi", "a" * 1000, "width", "in", "def", "let", "if", "then", "else", "out", "sum"):
            self.fails(BadCode, 1, read_code, f"set 0 0\ninput 0 {name}")
        for name in ("X", "x1", "x_", "", "1", "x.", "x,y"):
            self.fails(BadText, 2, read_code, f"set 0 0\ninput 0 {name}")

    def test_numbers(self):
        for row in ("set 16 0", "set 0 18446744073709551616", "copy 0 16", "shl 0 0 65", "store 256 0", "load 0 256", "out 8 0",
                    "loop 16 0", "set 0 1" + "0" * 5000, "add 0 0 1" + "0" * 50):
            self.fails(BadCode, 1, read_code, "neg 0 0\n" + row + ("\nagain" if row.startswith("loop") else ""))
        for row in ("set 00 0", "set 0 00", "set 0 01", "set 0 -1", "set 0 +1", "set 0 1.", "set 0 x", "set 0 1_0", "set x 0",
                    "set 0 " + "0" * 5000, "set 0 0x1"):
            self.fails(BadText, 2, read_code, "neg 0 0\n" + row)
        self.assertEqual(read_code("set 0 18446744073709551615\nset 10 10"), (("set", 0, 2 ** 64 - 1), ("set", 10, 10)))

    def test_rows(self):
        for row in ("", " ", "set  0 0", "set 0  0", " set 0 0", "set 0 0 ", "set", "set 0", "set 0 0 0", "again ", "again 0",
                    " again", "Set 0 0", "sets 0 0", "input 0", "set\t0 0", "set 0 0\r", "jump 0"):
            self.fails(BadText, 1, read_code, row)
            self.fails(BadText, 2, read_code, "neg 0 0\n" + row)
            self.fails(BadText, 2, read_code, "neg 0 0\n" + row + "\nneg 0 0")
        self.fails(BadText, 1, read_code, "")
        self.fails(BadText, 1, read_code, "\nset 0 0")
        self.fails(BadText, 30, read_code, TEXT + "\n")

    def test_order_of_errors(self):
        self.fails(BadText, 3, read_code, "set 16 0\nagain\nset 0 00\n")
        self.fails(BadCode, 0, read_code, "set 16 0\nagain")
        self.fails(BadCode, 0, read_code, "again\nset 16 0")
        self.fails(BadCode, -1, read_code, "set 0 0\nloop 0 0")
        self.fails(BadCode, 2, read_code, "loop 3 0\nneg 0 0\nset 3 0\nagain")
        self.fails(BadCode, 1, read_code, "out 0 0\nout 0 1")

    def test_many_rows(self):
        rows = ["set 0 0"] * 2000
        self.assertEqual(read_code("\n".join(rows)), (("set", 0, 0),) * 2000)
        self.assertEqual(write_code((("set", 0, 0),) * 2000), "\n".join(rows))
        self.fails(BadCode, -1, read_code, "\n".join(rows + ["set 0 0"]))
        self.fails(BadCode, -1, read_code, "\n".join(["again"] * 2001))
        self.fails(BadText, 2001, read_code, "\n".join(rows + [""]))
        self.fails(BadText, 1, read_code, "x" * 100000)
        self.fails(BadText, 1, read_code, "\n" * 100000)

    def test_one_character_changed(self):
        """A character taken out, put in or changed at any place."""
        seen = []
        for text in (TEXT, "loop 1 0\nadd 2 2 1\nagain\nout 0 2", "input 10 abcdefgh"):
            for at in range(len(text) + 1):
                for sign in " \n0129axs-":
                    seen.append(self.judged(text[:at] + sign + text[at:]))
                    seen.append(self.judged(text[:at] + sign + text[at + 1:]))
                seen.append(self.judged(text[:at] + text[at + 1:]))
        for kind in ("text", "code", "wrong"):
            self.assertGreater(seen.count(kind), 100)

    def test_by_lot(self):
        lot = by_lot(201)
        for _ in range(300):
            code = tuple(lot.choice(RIGHT[:15]) for _ in range(lot.randrange(1, 10)))
            self.assertEqual(read_code(write_code(code)), code)
            items = [str(item) for one in code for item in one]
            lot.shuffle(items)
            self.judged(" ".join(items).replace(" set", "\nset").replace(" neg", "\nneg"))

    def test_wrong(self):
        for thing in any_things():
            if not isinstance(thing, str):
                self.fails(BadText, thing, read_code, thing)
        for thing in not_codes():
            self.fails(BadCode, -1, write_code, thing)
        self.fails(BadCode, 1, write_code, (("set", 0, 0), ["set", 0, 0]))
