"""Programs as text: [34]."""

from samewords.errors import BadProgram, BadText
from samewords.formulas import Call, Name, Number, Sum
from samewords.listings import read_program, write_program
from samewords.programs import Choice, Program
from tests.helper import WORDS, X, Case, any_things, by_lot, not_programs, plain_by_lot

N = Name("n")
P = Name("p")
A = Name("a")
TEXT = """width 8
in x
in n
def f(p) = (p * p)
def g(p, q, r, s) = sum(i, p, (f(i) + q))
let a = g(n, x, 3, f(x))
let b = if (a + x) = n then f(a) else (- x)
let iffy = a
out b
out x"""
ROWS = TEXT.split("\n")
PROGRAM = Program(8, ["x", "n"],
                  [("f", ("p",), P * P), ("g", ("p", "q", "r", "s"), Sum("i", P, Call("f", [Name("i")]) + Name("q")))],
                  [("a", Call("g", [N, X, Number(3), Call("f", [X])])), ("b", Choice(A + X, N, Call("f", [A]), -X)),
                   ("iffy", A)], ["b", "x"])


class Writing(Case):
    def test_ordinary(self):
        self.assertEqual(write_program(PROGRAM), TEXT)
        self.assertEqual(write_program(Program(64, (), (), [("a", Number(3))], ["a"])), "width 64\nlet a = 3\nout a")
        self.assertEqual(write_program(Program(1, ["x"], (), (), ["x"])), "width 1\nin x\nout x")

    def test_wrong(self):
        for thing in not_programs():
            self.fails(BadProgram, thing, write_program, thing)


class Reading(Case):
    def test_ordinary(self):
        self.assertEqual(read_program(TEXT), PROGRAM)
        self.assertEqual(read_program("width 64\nlet a = 3\nout a"), Program(64, (), (), [("a", Number(3))], ["a"]))

    def test_by_lot(self):
        lot = by_lot(111)
        for _ in range(200):
            made = plain_by_lot(lot, lot.randrange(1, 65))
            text = write_program(made)
            self.assertEqual(read_program(text), made)
            self.assertEqual(write_program(read_program(text)), text)

    def test_no_string(self):
        for thing in any_things():
            if not isinstance(thing, str):
                self.fails(BadText, thing, read_program, thing)

    def bad(self, rows, number):
        self.fails(BadText, number, read_program, "\n".join(rows))

    def changed(self, number, row):
        """The row with this number, counted from 1, is another one."""
        return ROWS[:number - 1] + [row] + ROWS[number:]

    def bad_row(self, number, *rows):
        for row in rows:
            self.bad(self.changed(number, row), number)

    def test_empty(self):
        self.fails(BadText, 1, read_program, "")
        self.fails(BadText, 1, read_program, "\n" + TEXT)
        self.fails(BadText, 11, read_program, TEXT + "\n")
        for at in range(1, 11):
            self.bad(ROWS[:at - 1] + [""] + ROWS[at - 1:], at)

    def test_blanks(self):
        for at, row in enumerate(ROWS, start=1):
            self.bad_row(at, row + " ", " " + row, row.replace(" ", "  ", 1), row.replace(" ", "", 1), row + "\r",
                         row.replace(" ", "\t", 1), row[:-1] + "=", row + "x y")

    def test_cut_off(self):
        for end in range(len(TEXT)):
            rows = TEXT[:end].split("\n")
            if end == TEXT.index("out b") + 5:
                continue
            with self.assertRaises(BadText) as caught:
                read_program(TEXT[:end])
            self.assertIn(caught.exception.value, (len(rows), len(rows) + 1))
        self.assertEqual(read_program("\n".join(ROWS[:9])).outs, ("b",))

    def test_widths(self):
        for width in (1, 9, 10, 64):
            self.assertEqual(read_program("\n".join(self.changed(1, f"width {width}"))).width, width)
        self.bad_row(1, "width", "width ", "width 0", "width 65", "width 08", "width -8", "width +8", "width x",
                     "width 8 8", "width 1_0", "Width 8", "width 100", "width 8.0", "in x")

    def test_inputs(self):
        self.bad_row(2, "in", "in ", "in X", "in 3", "in x y", "in abcdefghi", "in (x)", "in x1", "on x",
                     *["in " + word for word in WORDS])

    def test_defs(self):
        self.bad_row(4, "def f(p) = ", "def f(p)", "def f() = 3", "def f = 3", "def f(p, q, r, s, t) = 3", "def f(p,q) = 3",
                     "def f(p ,q) = 3", "def f(p) = q q", "def f(p)= 3", "def f(p) =3", "def (p) = 3", "def f(p = 3", "def f(px = 3", "def f(p x = 3",
                     "def fp) = 3", "def f((p)) = 3", "def f(p)) = 3", "def f(p) x = 3", "def f(p) = 3 = 4", "def f (p) = 3",
                     "def sum(p) = 3", "def f(sum) = 3", "def f(p, if) = 3", "def f(p,) = 3", "def f(p, ) = 3",
                     "def f(3) = 3", "def abcdefghi(p) = 3", "def f(p) = if p = p then p else p", "def f[p] = 3",
                     "def f(p) = sum(p, p, 3)", "def f(p) = sum(j, p, sum(j, p, 3))")
        self.assertEqual(read_program("width 8\nin x\ndef f(x, p) = 3\nout x").defs, (("f", ("x", "p"), Number(3)),))

    def test_lets(self):
        self.bad_row(7, "let b", "let b =", "let b = ", "let = x", "let b x", "let b = x y", "let b= x", "let b =x",
                     "let let = x", "let B = x", "let abcdefghi = x", "let b = x = x", "let b = (let + x)",
                     "let b = sum(n, n, x)", "Let b = x", "lets b = x", "b = x", "let b = " + "(- " * 40 + "x" + ")" * 40, "let b = 01")
        good = "let b = " + "(- " * 39 + "x" + ")" * 39
        self.assertEqual(read_program("\n".join(self.changed(7, good))).lets[1][1].depth, 40)

    def test_choices(self):
        self.bad_row(7, "let b = if", "let b = if ", "let b = if x", "let b = if x = n", "let b = if x = n then x",
                     "let b = if x = n then x else", "let b = if x = n then x else ", "let b = if x n then x else x",
                     "let b = if x = n else x then x", "let b = if x = n then x else x else x",
                     "let b = if x = n then x then x else x", "let b = if x = n = n then x else x",
                     "let b = if  x = n then x else x", "let b = if x = n  then x else x", "let b = if x = n then x  else x",
                     "let b = if x = n then x else x ", "let b = (if x = n then x else x)", "let b = if(x) = n then x else x",
                     "let b = if x = n then x else if x = n then x else x", "let b = iffy = x",
                     "let b = if x == n then x else x", "let b = if sum(n, n, x) = n then x else x",
                     "let b = if x = n then x else sum(n, n, x)", "let b = if x = sum(n, n, x) then x else x",
                     "let b = if x = n then sum(n, n, x) else x", "let b = if x = n then sum(j, n, sum(j, n, j)) else x")
        good = "let b = if iffier(x) = thenx then elsex else ifs"
        self.assertEqual(write_of("width 8\n" + "\n".join(f"in {name}" for name in ("x", "thenx", "elsex", "ifs")) +
                                  "\ndef iffier(p) = p\n" + good + "\nout b"), good)

    def test_outs(self):
        self.bad_row(9, "out", "out ", "out 3", "out b x", "out B", "out out", "out (b)", "Out b", "in out")
        self.bad(ROWS[:8], 9)
        self.bad(ROWS[:1], 2)
        self.bad(ROWS[:3], 4)

    def test_each_wrong_order(self):
        kinds = [row.split(" ")[0] for row in ROWS]
        order = ["width", "in", "def", "let", "out"]
        for at in range(len(ROWS)):
            for to in range(len(ROWS)):
                rows = ROWS[:at] + ROWS[at + 1:]
                rows.insert(to, ROWS[at])
                told = [kinds[ROWS.index(row)] for row in rows]
                wrong = [number for number, kind in enumerate(told, start=1)
                         if (kind == "width") != (number == 1)
                         or number > 1 and order.index(told[number - 2]) > order.index(kind)]
                if wrong:
                    self.bad(rows, wrong[0])
        self.bad(ROWS + ["width 8"], 11)
        self.bad([ROWS[0]] + ROWS, 2)
        self.bad(ROWS[1:], 1)
        self.bad(ROWS[:4] + ["in y"] + ROWS[4:], 5)
        self.bad(ROWS + ["let z = 3"], 11)
        self.bad(ROWS + ["def z(p) = 3", "nonsense"], 11)

    def test_the_first_wrong_row(self):
        self.bad(self.changed(4, "let z = 3")[:6] + ["nonsense"], 5)
        self.bad(self.changed(4, "nonsense") + ["in y"], 4)
        self.bad(["nonsense", "width 8"], 1)
        self.bad(ROWS[:8] + ["in y"], 9)

    def test_wrong_programs(self):
        def fails(value, *rows):
            self.fails(BadProgram, value, read_program, "\n".join(rows))
        fails(("in", 1), "width 8", "in x", "in x", "let b = y", "out z")
        fails(("in", -1), "width 8", *[f"in {name}" for name in "vwxyz"], "out x")
        fails(("def", 0), "width 8", "in x", "def f(p, p) = p", "let b = y", "out z")
        fails(("def", 1), "width 8", "in x", "def f(p) = p", "def f(p) = p", "out x")
        fails(("def", -1), "width 8", "in x", *["def f(p) = p"] * 21, "out x")
        fails(("let", 0), "width 8", "in x", "let b = if x = x then y else x", "out z")
        fails(("let", 1), "width 8", "in x", "let b = x", "let c = sum(b, x, x)", "out z")
        fails(("let", -1), "width 8", "in x", *["let b = x"] * 61, "out x")
        fails(("out", 0), "width 8", "in x", "out z")
        fails(("out", 1), "width 8", "in x", "out x", "out x")
        fails(("out", -1), "width 8", "in x", *["out x"] * 9)
        # What is not so written goes ahead of what is wrong in the program.
        self.bad(["width 8", "in x", "in x", "out x "], 4)
        self.bad(["width 8", "in x", "in x"], 4)

    def test_long(self):
        names = [chr(97 + at // 20) + chr(97 + at % 20) for at in range(60)]
        lets = [(name * 2, X) for name in names]
        made = Program(8, ["x"], [(chr(97 + at) * 3, ("p",), P) for at in range(20)], lets, [name for name, _ in lets[:8]])
        self.assertEqual(read_program(write_program(made)), made)


def write_of(text):
    return write_program(read_program(text)).split("\n")[-2]
