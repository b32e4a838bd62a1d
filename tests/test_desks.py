"""Desks: [55] and [56]."""

from samewords.desks import Desk
from samewords.errors import (BadCount, BadName, BadPasses, BadProgram, BadValue, NoCode, NothingDone, NotPlain, SameError, TooMany,
                              Unlike)
from samewords.formulas import Name, Number, Sum
from samewords.machine import Machine
from samewords.passes import PASSES, passed
from samewords.plain import programs_alike
from samewords.programs import Choice, Program
from samewords.reports import compiled
from tests.helper import (X, Case, any_things, big_power, by_lot, not_integers, not_names, not_programs, plain_by_lot, slow_run)
from tests.test_plain import too_large

N = Name("n")
I = Name("i")


def program(value, width=8, inputs=("x", "n"), outs=("a", "n"), name="a"):
    return Program(width, inputs, (), [(name, value)], outs)


FIRST = program(Sum("i", N, I * X))
SECOND = program(Sum("i", N, I) * X)
UNLIKE = program(Sum("i", N, I) * X + X)
DOUBLE = program(N + N)
SHIFTED = program(N << 1)


def contents(desk):
    """All that is seen of a desk."""
    return {name: (desk.program_of(name), desk.report_of(name)) for name in desk.names()}


class SlowDesk:
    """A desk that remembers all that it held ahead of each deed."""

    def __init__(self):
        self.states = [{}]

    def change(self, name, item):
        state = dict(self.states[-1])
        state.pop(name, None)
        if item is not None:
            state[name] = item
        self.states.append(state)


class Deeds(Case):
    def desk(self, **programs):
        desk = Desk()
        for name, made in programs.items():
            self.assertIsNone(desk.put(name, made))
        return desk

    def test_empty(self):
        desk = Desk()
        self.assertEqual((desk.names(), desk.families()), ([], []))
        self.fails(NothingDone, None, desk.undo)
        self.assertEqual(Desk().names(), [])

    def test_put_and_drop(self):
        desk = self.desk(two=SECOND, one=FIRST)
        self.assertEqual(contents(desk), {"one": (FIRST, None), "two": (SECOND, None)})
        self.assertEqual(desk.names(), ["one", "two"])
        self.fails(BadName, "two", desk.put, "two", None)
        self.assertIsNone(desk.drop("two"))
        self.assertEqual(contents(desk), {"one": (FIRST, None)})
        self.fails(BadName, "two", desk.drop, "two")
        desk.put("two", DOUBLE)
        self.assertEqual(contents(desk), {"one": (FIRST, None), "two": (DOUBLE, None)})

    def test_exchange(self):
        desk = self.desk(one=FIRST)
        self.assertIsNone(desk.exchange("one", SECOND))
        self.assertEqual(contents(desk), {"one": (SECOND, None)})
        self.fails(Unlike, {"n": 0, "x": 1}, desk.exchange, "one", UNLIKE)
        self.assertEqual(contents(desk), {"one": (SECOND, None)})

    def test_make(self):
        desk = self.desk(one=FIRST)
        self.assertIsNone(desk.make("one", 3, ["equals", "idle"]))
        self.assertEqual(contents(desk), {"one": (FIRST, compiled(FIRST, 3, ["equals", "idle"]))})
        desk.make("one", 16, [])
        self.assertEqual(contents(desk), {"one": (FIRST, compiled(FIRST, 16, []))})

    def test_an_exchange_keeps_the_report(self):
        desk = self.desk(one=FIRST)
        desk.make("one", 3, [])
        report = desk.report_of("one")
        desk.exchange("one", SECOND)
        self.assertEqual(contents(desk), {"one": (SECOND, report)})
        self.assertEqual(report.program, FIRST)
        self.assertEqual(desk.machine_of("one", {"x": 3, "n": 4}).go(), {0: 18, 1: 4})
        desk.undo()
        self.assertEqual(contents(desk), {"one": (FIRST, report)})
        desk.undo()
        self.assertEqual(contents(desk), {"one": (FIRST, None)})

    def test_drop_takes_the_report_away(self):
        desk = self.desk(one=FIRST)
        desk.make("one", 3, [])
        report = desk.report_of("one")
        desk.drop("one")
        desk.put("one", FIRST)
        self.assertIsNone(desk.report_of("one"))
        desk.undo()
        desk.undo()
        self.assertEqual(contents(desk), {"one": (FIRST, report)})

    def test_undo_till_nothing_is_done(self):
        desk = self.desk(one=FIRST, two=DOUBLE)
        seen = [{}, {"one": (FIRST, None)}, contents(desk)]
        for deed in (lambda: desk.make("two", 2, []), lambda: desk.exchange("two", SHIFTED), lambda: desk.make("two", 4, ["idle"]),
                     lambda: desk.drop("one"), lambda: desk.put("one", SECOND), lambda: desk.drop("two"), lambda: desk.drop("one")):
            deed()
            seen.append(contents(desk))
        for before in reversed(seen[:-1]):
            self.assertIsNone(desk.undo())
            self.assertEqual(contents(desk), before)
        self.fails(NothingDone, None, desk.undo)
        self.assertEqual(desk.names(), [])
        desk.put("one", FIRST)
        self.assertEqual(contents(desk), {"one": (FIRST, None)})

    def test_by_lot(self):
        """Deeds in every order, against a desk that remembers all; what raises changes nothing."""
        lot = by_lot(281)
        made = [FIRST, SECOND, UNLIKE, DOUBLE, SHIFTED, program(N, 7), None]
        seen = {}
        for _ in range(25):
            desk, slow = Desk(), SlowDesk()
            for _ in range(40):
                word, name = lot.choice("put drop exchange exchange make undo undo put".split()), lot.choice(["one", "two", "three"])
                other, state = lot.choice(made), slow.states[-1]
                try:
                    if word == "put":
                        desk.put(name, other)
                        slow.change(name, (other, None))
                    elif word == "drop":
                        desk.drop(name)
                        slow.change(name, None)
                    elif word == "exchange":
                        desk.exchange(name, other)
                        self.assertIs(programs_alike(state[name][0], other), True)
                        slow.change(name, (other, state[name][1]))
                    elif word == "make":
                        many, passes = lot.choice([2, 3, 5]), lot.choice([[], ["idle"], ["equals", "calls"], ["x"]])
                        desk.make(name, many, passes)
                        slow.change(name, (state[name][0], compiled(state[name][0], many, passes)))
                    else:
                        desk.undo()
                        slow.states.pop()
                    seen[word] = seen.get(word, 0) + 1
                except SameError as error:
                    self.assertEqual(type(error) is NothingDone, word == "undo")
                    self.assertTrue(word != "undo" or len(slow.states) == 1)
                    seen[type(error).__name__] = seen.get(type(error).__name__, 0) + 1
                self.assertEqual(contents(desk), slow.states[-1])
            while len(slow.states) > 1:
                slow.states.pop()
                desk.undo()
                self.assertEqual(contents(desk), slow.states[-1])
            self.fails(NothingDone, None, desk.undo)
        for word in ("put", "drop", "exchange", "make", "undo", "BadName", "BadProgram", "Unlike", "BadCount", "BadPasses"):
            self.assertGreater(seen.get(word, 0), 5, word)

    def test_wrong(self):
        desk = self.desk(one=FIRST, two=DOUBLE)
        desk.make("one", 3, [])
        before = contents(desk)
        choice, large = program(Choice(X, X, X, X)), program(big_power("x", 13))
        for name in not_names() + ["one"]:
            self.fails(BadName, name, desk.put, name, None)
        for name in not_names() + ["three"]:
            self.fails(BadName, name, desk.drop, name)
            self.fails(BadName, name, desk.exchange, name, None)
            self.fails(BadName, name, desk.make, name, None, None)
            for ask in (desk.program_of, desk.report_of):
                self.fails(BadName, name, ask, name)
            self.fails(BadName, name, desk.machine_of, name, None)
        for thing in not_programs():
            self.fails(BadProgram, thing, desk.put, "three", thing)
            self.fails(BadProgram, thing, desk.exchange, "one", thing)
        for thing, error, value in ((choice, NotPlain, 0), (large, TooMany, None), (too_large(), TooMany, None)):
            self.fails(error, value, desk.put, "three", thing)
            self.fails(error, value, desk.exchange, "one", thing)
        for thing in (program(N, 7), program(N, 8, ("n", "x")), program(N, 8, ("x", "n"), ("n", "a")), program(N, outs=("a",)),
                      program(N, outs=("b", "n"), name="b")):
            self.fails(BadProgram, thing, desk.exchange, "one", thing)
        # What is too large or has a choice is so ahead of having another shape.
        self.fails(TooMany, None, desk.exchange, "one", program(big_power("x", 13), 7))
        self.fails(NotPlain, 0, desk.exchange, "one", program(Choice(X, X, X, X), 7))
        self.fails(BadPasses, -1, desk.make, "one", None, None)
        self.fails(BadPasses, 1, desk.make, "one", None, ["idle", "none"])
        for many in not_integers() + [2, 17]:
            self.fails(BadCount, many, desk.make, "one", many, PASSES)
        self.assertEqual(contents(desk), before)
        desk.undo()
        self.assertEqual(contents(desk), {"one": (FIRST, None), "two": (DOUBLE, None)})


class Asking(Case):
    def test_new_things(self):
        desk = Desk()
        desk.put("one", FIRST)
        desk.put("two", SECOND)
        self.fresh(desk.names)
        self.fresh(desk.families)

    def test_machines(self):
        desk = Desk()
        desk.put("one", Program(8, ("x", "n"), (), [("a", N << 1), ("b", X - X)], ("a",)))
        self.fails(NoCode, "one", desk.machine_of, "one", None)
        desk.make("one", 2, ["unused"])
        for values in (None, {}, [("n", 1), ("x", 1)], {"x": 1}, {"n": 256, "x": 1}, {"n": True, "x": 1}):
            self.fails(BadValue, "n", desk.machine_of, "one", values)
        # All inputs of the program are asked for, also those that the code does not have.
        for values in ({"n": 1}, {"n": 1, "x": None}, {"n": 1, "x": -1}):
            self.fails(BadValue, "x", desk.machine_of, "one", values)
        machine = desk.machine_of("one", {"n": 200, "x": 1, "y": None})
        self.assertIsInstance(machine, Machine)
        self.assertEqual((machine.code, machine.width, machine.at, machine.steps), (desk.report_of("one").code, 8, 0, 0))
        self.assertEqual(machine.go(), {0: 144})
        self.assertEqual(desk.machine_of("one", {"n": 200, "x": 1}).steps, 0)
        self.assertEqual(machine.at, len(machine.code))

    def test_families(self):
        desk = Desk()
        of_shapes = {"e": FIRST, "b": SECOND, "d": UNLIKE, "a": DOUBLE, "c": SHIFTED, "f": program(N + N, 7), "g": program(N << 1, 7),
                     "h": program(N << 1, 8, ("n", "x")), "i": program(N << 1, 8, ("x", "n"), ("n", "a")),
                     "j": program(N << 1, 8, ("x", "n"), ("a",)), "k": program(N << 1, 8, ("n",)),
                     "l": program(N << 1, 8, ("x", "n"), ("b", "n"), "b"), "m": FIRST}
        for name, made in of_shapes.items():
            desk.put(name, made)
        self.assertEqual(desk.families(), [("a", "c"), ("b", "e", "m"), ("d",), ("f", "g"), ("h",), ("i",), ("j",), ("k",), ("l",)])
        desk.make("b", 3, [])
        desk.drop("a")
        desk.exchange("m", SECOND)
        self.assertEqual(desk.families(), [("b", "e", "m"), ("c",), ("d",), ("f", "g"), ("h",), ("i",), ("j",), ("k",), ("l",)])

    def test_families_by_lot(self):
        lot = by_lot(282)
        for _ in range(6):
            desk = Desk()
            made = {}
            for name in lot.sample([one + other for one in "abc" for other in "xyz"], 7):
                made[name] = plain_by_lot(lot, 2, 3)
                made[name] = Program(2, ("x", "n"), made[name].defs, made[name].lets, ["a"])
                desk.put(name, made[name])
                if lot.randrange(2):
                    made[name + "q"] = passed(made[name], lot.choice(PASSES))
                    desk.put(name + "q", made[name + "q"])
            words = {name: [slow_run(one, {"x": x, "n": n}) for x in range(4) for n in range(4)] for name, one in made.items()}
            expected = {tuple(sorted(other for other in made if words[other] == words[name])) for name in made}
            self.assertEqual(desk.families(), sorted(expected))


class Mistake(Exception):
    """No error of the program."""


class Trying(Case):
    def test_what_it_returns(self):
        desk = Desk()
        desk.put("one", FIRST)
        seen = []

        def deed(other):
            seen.append(other)
            other.put("two", DOUBLE)
            other.make("one", 3, [])
            other.exchange("one", SECOND)
            other.drop("two")
            return other.names(), other.program_of("one"), other.report_of("one") is not None

        self.assertEqual(desk.trying(deed), (["one"], SECOND, True))
        self.assertIs(seen[0], desk)
        self.assertEqual(contents(desk), {"one": (FIRST, None)})
        self.assertIsNone(desk.trying(lambda other: other.drop("one")))
        self.assertEqual(contents(desk), {"one": (FIRST, None)})

    def test_what_undo_takes_back(self):
        desk = Desk()
        desk.put("one", FIRST)
        desk.make("one", 3, [])
        report = desk.report_of("one")

        def deed(other):
            other.undo()
            other.undo()
            self.fails(NothingDone, None, other.undo)
            other.put("two", DOUBLE)
            other.put("three", DOUBLE)
            return len(other.names())

        self.assertEqual(desk.trying(deed), 2)
        self.assertEqual(contents(desk), {"one": (FIRST, report)})
        desk.undo()
        self.assertEqual(contents(desk), {"one": (FIRST, None)})
        desk.undo()
        self.assertEqual(contents(desk), {})
        self.fails(NothingDone, None, desk.undo)
        desk.trying(lambda other: other.put("one", FIRST))
        self.fails(NothingDone, None, desk.undo)

    def test_errors_are_passed_on(self):
        desk = Desk()
        desk.put("one", FIRST)

        def deed(other):
            other.drop("one")
            other.put("two", DOUBLE)
            other.put("two", DOUBLE)

        def mistake(other):
            deed_done.append(other.drop("one"))
            raise Mistake("own")

        deed_done = []
        self.fails(BadName, "two", desk.trying, deed)
        self.assertEqual(contents(desk), {"one": (FIRST, None)})
        with self.assertRaises(Mistake) as caught:
            desk.trying(mistake)
        self.assertEqual((caught.exception.args, deed_done), (("own",), [None]))
        self.assertEqual(contents(desk), {"one": (FIRST, None)})
        desk.undo()
        self.assertEqual(contents(desk), {})

    def test_one_within_another(self):
        desk = Desk()
        desk.put("one", FIRST)

        def inner(other):
            other.drop("one")
            other.drop("two")
            raise Mistake()

        def outer(other):
            other.put("two", DOUBLE)
            before = contents(other)
            with self.assertRaises(Mistake):
                other.trying(inner)
            self.assertEqual(contents(other), before)
            self.assertEqual(other.trying(lambda one: one.undo() or one.names()), ["one"])
            self.assertEqual(contents(other), before)
            other.undo()
            self.assertEqual(other.names(), ["one"])
            other.undo()
            return other.names()

        self.assertEqual(desk.trying(outer), [])
        self.assertEqual(contents(desk), {"one": (FIRST, None)})
        desk.undo()
        self.fails(NothingDone, None, desk.undo)

    def test_two_desks(self):
        desk, other = Desk(), Desk()
        desk.trying(lambda one: other.put("one", FIRST))
        self.assertEqual((desk.names(), other.names()), ([], ["one"]))

    def test_other_things(self):
        """Programs that the deed was told of are those of the desk."""
        desk = Desk()
        desk.put("one", program(Number(3)))
        self.assertEqual(desk.trying(lambda one: one.families() + any_things()[:1]), [("one",), None])
