"""Rests: [53] and [54]."""

from samewords.coding import code_of
from samewords.errors import BadCode, BadCount, BadName, BadPlace, BadValue, BadWidth, TooMany, Unreadable, UnlikeRest
from samewords.machine import Machine
from samewords.reading import read_back
from samewords.rests import carried, rest_input, rests_alike
from tests.helper import Case, by_lot, not_codes, not_integers, not_widths, plain_by_lot
from tests.test_machine import AGAIN, behind_loop, code_by_lot, slow_run_code

LETTERS = "abcdefghijklmnopqrstuvwxyz"
NAMES = ["r" + letter for letter in LETTERS[:16]] + ["s" + one + other for one in LETTERS for other in LETTERS][:256]
# The same sum, in other registers, with a product in the turns or behind them.
ONE = (("input", 0, "n"), ("input", 1, "x"), ("loop", 2, 0), ("mul", 3, 2, 1), ("add", 4, 4, 3), AGAIN, ("out", 0, 4))
OTHER = (("input", 0, "n"), ("loop", 2, 0), ("add", 4, 4, 2), AGAIN, ("input", 1, "x"), ("mul", 4, 4, 1), ("out", 0, 4))


def places_of(code):
    """The indexes that stand in no loop."""
    inside = [at for begin in range(len(code)) if code[begin][0] == "loop" for at in range(begin + 1, behind_loop(code, begin))]
    return [at for at in range(len(code) + 1) if at not in inside]


def as_whole(code, at):
    """A code that reads as the rest does: the registers and slots from inputs of their names."""
    start = [(("input", 0, name), ("store", number, 0)) for number, name in enumerate(NAMES[16:])]
    start.append(tuple(("input", number, name) for number, name in enumerate(NAMES[:16])))
    return tuple(instruction for part in start for instruction in part) + code[at:]


class Rests(Case):
    def unlike(self, found, code, at, other, place, width=8):
        self.assertIs(rests_alike(code, at, other, place, width), found is None)
        self.assertEqual(rest_input(code, at, other, place, width), found)

    def test_from_0_to_the_end(self):
        self.unlike(None, ONE, 0, ONE, 0)
        self.unlike(None, ONE, 7, ONE, 7)
        self.unlike(None, ONE, 7, OTHER, 7)
        self.unlike(None, ONE, 6, OTHER, 6)
        self.unlike((0, {}), ONE, 7, OTHER, 6)
        self.unlike((0, {}), ONE, 6, OTHER, 7)
        # Register 4 need not be 0 at the begin: it is added to here, and multiplied there.
        self.unlike((0, {"n": 0, "re": 1, "x": 0}), ONE, 0, OTHER, 0)
        zero = (("set", 4, 0),)
        self.unlike(None, zero + ONE, 0, zero + OTHER, 0)
        self.unlike((0, {"n": 2, "x": 0}), zero + ONE, 0, zero + OTHER[:5] + OTHER[6:], 0)

    def test_names_of_registers_and_slots(self):
        self.assertEqual([NAMES[0], NAMES[1], NAMES[15], NAMES[16], NAMES[17], NAMES[42], NAMES[271]],
                         ["ra", "rb", "rp", "saa", "sab", "sba", "sjv"])
        for number in range(16):
            self.unlike((0, {NAMES[number]: 1}), (("out", 0, number),), 0, (("neg", number, number), ("out", 0, number)), 0)
        for number in range(256):
            code = (("load", 0, number), ("out", 5, 0))
            self.unlike((5, {NAMES[16 + number]: 1}), code, 0, (("set", 0, 0), ("out", 5, 0)), 0)
        self.unlike((0, {"ra": 0, "sjv": 1}), (("out", 0, 0),), 0, (("load", 1, 255), ("out", 0, 1)), 0)

    def test_a_register_as_the_number_of_turns(self):
        one = (("loop", 2, 0), ("add", 4, 4, 2), AGAIN, ("out", 0, 4))
        other = (("set", 9, 1), ("mul", 5, 0, 0), ("sub", 5, 5, 0), ("shl", 4, 4, 1), ("add", 4, 4, 5), ("out", 0, 4))
        self.unlike((0, {"ra": 0, "re": 1}), one, 0, other, 0)
        self.unlike(None, one[:3] + (("shl", 4, 4, 1), ("out", 0, 4)), 0, other, 0)
        slot = (("load", 0, 7), ("loop", 2, 0), ("add", 4, 4, 2), AGAIN, ("out", 0, 4))
        self.unlike((0, {"ra": 0, "re": 0, "sah": 2}), slot, 0, one, 0)
        self.unlike(None, slot, 0, (("load", 0, 7),) + one, 0)
        self.unlike((0, {"ra": 0, "re": 0, "sah": 2}), slot, 1, slot, 0)
        self.unlike(None, slot, 1, one, 0)

    def test_places(self):
        """Behind an again a place is one, at an again it is none."""
        code = (("set", 0, 1), ("loop", 1, 0), ("loop", 2, 0), ("neg", 3, 3), AGAIN, ("set", 3, 0), AGAIN, ("out", 0, 0))
        self.assertEqual(places_of(code), [0, 1, 7, 8])
        for at in (0, 1, 7):
            self.unlike(None, code, at, code, at)
        self.unlike((0, {"ra": 0}), code, 0, code, 7)
        self.unlike(None, code, 1, code, 7)
        self.unlike(None, code, 8, code, 8)
        for at in [2, 3, 4, 5, 6, -1, 9, 10 ** 5000] + not_integers():
            for function in (rests_alike, rest_input):
                self.fails(BadPlace, at, function, code, at, code, None, None)
                self.fails(BadPlace, at, function, code, 0, code, at, None)

    def test_numbers(self):
        """The first output number that is told in one rest alone, or by unlike tables."""
        code = (("out", 1, 0), ("out", 3, 1), ("out", 5, 2))
        self.unlike((1, {}), code, 0, code, 1)
        self.unlike((1, {}), code, 1, code, 0)
        self.unlike((3, {}), code, 2, (("out", 3, 1), ("out", 5, 2)), 0)
        self.unlike(None, code, 0, code[::-1], 0)
        self.unlike((3, {"rb": 0, "rc": 1}), code, 0, (("out", 1, 0), ("out", 3, 2), ("out", 4, 0)), 0)
        self.unlike((1, {"ra": 0, "rb": 1}), code, 0, (("out", 1, 1), ("out", 3, 2)), 0)
        self.unlike((0, {}), code, 0, (("out", 0, 0), ("out", 1, 5)), 0)
        self.unlike((3, {}), code, 0, (("out", 1, 0), ("out", 5, 9)), 0)

    def test_the_least_unlike_input(self):
        code = lambda *ahead: ahead + (("out", 0, 0),)
        self.unlike((0, {"ra": 2}), code(("mul", 0, 0, 0)), 0, code(), 0)
        self.unlike((0, {"ra": 0, "x": 1}), code(("input", 1, "x"), ("add", 0, 0, 1)), 0, code(), 0)
        self.unlike((0, {}), code(("set", 0, 3)), 0, code(("set", 0, 4)), 0)
        self.unlike(None, code(("set", 0, 3)), 0, code(("set", 0, 259)), 0)
        self.unlike((0, {}), code(("set", 0, 3)), 0, code(("set", 0, 259)), 0, 64)
        # More than 4 inputs of both tables together.
        four = tuple(("add", 0, 0, at) for at in (1, 2, 3))
        other = tuple(("add", 0, 0, at) for at in (4, 5, 6))
        self.unlike((0, {"ra": 0, "rb": 0, "rc": 0, "rd": 0, "re": 0, "rf": 0, "rg": 1}), code(*four), 0, code(*other), 0)

    def test_what_was_told_ahead(self):
        code = (("out", 0, 0), ("set", 1, 5), ("out", 1, 0))
        self.unlike(None, code, 1, code, 2)
        self.unlike((0, {}), code, 0, code, 1)

    def test_as_a_whole_code(self):
        """A rest reads as a code that begins with inputs of the names of registers and slots."""
        lot = by_lot(271)
        seen = {"alike": 0, "unlike": 0, "unreadable": 0}
        for _ in range(150):
            code = code_by_lot(lot, lot.randrange(2, 10))
            other = code if lot.randrange(2) else code_by_lot(lot, lot.randrange(2, 8))
            at, place = lot.choice(places_of(code)), lot.choice(places_of(other))
            if other == code and lot.randrange(2):
                place = at
            width = lot.choice([1, 2, 8, 64])
            try:
                told = read_back(as_whole(code, at), width)
                others = read_back(as_whole(other, place), width)
            except (Unreadable, TooMany) as error:
                with self.assertRaises(type(error)):
                    rests_alike(code, at, other, place, width)
                seen["unreadable"] += 1
                continue
            self.assertIs(rests_alike(code, at, other, place, width), told == others)
            found = rest_input(code, at, other, place, width)
            seen["alike" if found is None else "unlike"] += 1
            if found is not None:
                number, values = found
                first = min(one for one in range(8) if told.get(one) != others.get(one))
                self.assertEqual(number, first)
                if number in told and number in others:
                    self.assertEqual(sorted(values), sorted(set(told[number].inputs + others[number].inputs)))
                    self.assertNotEqual(told[number].word_at(values), others[number].word_at(values))
                else:
                    self.assertEqual(values, {})
        self.assertTrue(all(many > 15 for many in seen.values()), seen)

    def test_new_dict(self):
        self.fresh(lambda: rest_input((("out", 0, 0),), 0, (("out", 0, 1),), 0, 8)[1])

    def test_wrong(self):
        for function in (rests_alike, rest_input):
            for thing in not_codes():
                self.fails(BadCode, -1, function, thing, None, None, None, None)
                self.fails(BadCode, -1, function, ONE, None, thing, None, None)
            self.fails(BadCode, 0, function, (AGAIN,), None, (("set", 0, 0), AGAIN), None, None)
            self.fails(BadCode, 1, function, ONE, None, (("set", 0, 0), AGAIN), None, None)
            self.fails(BadPlace, 4, function, ONE, 4, OTHER, 3, None)
            self.fails(BadPlace, 3, function, ONE, 0, OTHER, 3, None)
            for width in not_widths():
                self.fails(BadWidth, width, function, ONE, 0, (("input", 0, "ra"),), 0, width)

    def test_names_called_like_registers_and_slots(self):
        for name in ("ra", "rb", "rp", "saa", "saz", "sba", "sjv"):
            code = (("input", 0, name), ("out", 0, 0))
            for one, other in ((code, ONE), (ONE, code), (code, code)):
                self.fails(BadName, name, rest_input, one, 0, other, 0, 8)
                # Also ahead of the places.
                self.fails(BadName, name, rests_alike, one, len(one), other, len(other), 8)
        for name in ("rq", "rz", "sjw", "sjz", "ska", "r", "sa", "raa", "saaa"):
            code = (("input", 0, name), ("out", 0, 0))
            self.unlike(None, code, 0, code, 0)
        self.fails(BadName, "rc", rest_input, (("input", 0, "sab"), ("input", 0, "x")), 0, (("input", 0, "rc"), ("input", 0, "re")), 0, 8)
        # Such names are let where no rest is read.
        self.assertEqual(read_back((("input", 0, "ra"), ("out", 0, 0)), 8)[0].inputs, ("ra",))

    def test_unreadable(self):
        lost = (("set", 0, 0), ("loop", 1, 0), AGAIN, ("out", 0, 1))
        fine = (("out", 0, 0),)
        large = (("input", 0, "x"),) + (("mul", 0, 0, 0),) * 4
        for function in (rests_alike, rest_input):
            self.fails(Unreadable, 3, function, lost, 0, fine, 0, 8)
            self.fails(Unreadable, 3, function, fine, 0, lost, 0, 8)
            self.fails(Unreadable, 5, function, fine + lost[:3] + (("neg", 1, 1), ("out", 3, 1)), 1, fine, 0, 8)
            self.fails(Unreadable, 3, function, lost, 0, large, 0, 64)
            self.fails(TooMany, None, function, large, 0, lost, 0, 64)
            self.fails(TooMany, None, function, fine, 0, large, 0, 64)
            # Ahead of the place nothing is read.
            self.assertIsNotNone(function(lost, 3, fine, 0, 8))
            self.assertIsNotNone(function(large, len(large), fine, 0, 64))
        self.unlike((0, {"ra": 0, "rb": 1}), lost, 3, fine, 0)


class Carried(Case):
    def test_there_and_back(self):
        zero = (("set", 4, 0),)
        one, other = zero + ONE + (("out", 1, 0),), zero + OTHER + (("out", 1, 0),)
        machine = Machine(one, 8, {"x": 3, "n": 5})
        self.assertEqual(machine.go_to(1), True)
        before = (machine.at, machine.steps, machine.registers, machine.slots, machine.outputs)
        moved = carried(machine, one, 1)
        self.assertEqual(moved.go(), {0: 30, 1: 5})
        self.assertEqual((machine.at, machine.steps, machine.registers, machine.slots, machine.outputs), before)
        machine = Machine(one, 8, {"x": 3, "n": 5})
        for _ in range(10):
            machine = carried(carried(machine, other, 0), one, 0)
        self.assertEqual((machine.code, machine.at, machine.steps), (one, 0, 0))
        self.assertEqual(machine.go(), {0: 30, 1: 5})

    def test_in_the_middle(self):
        """Behind the loops both go on alike, with what the first one has worked out."""
        one, other = ONE + (("out", 1, 0),), (("set", 9, 9),) + OTHER + (("out", 1, 0),)
        machine = Machine(one, 8, {"x": 3, "n": 5})
        machine.go_to(6)
        moved = carried(machine, other, 7)
        self.assertEqual((moved.code, moved.at, moved.steps, moved.registers), (other, 7, machine.steps, machine.registers))
        self.assertEqual(moved.go(), {0: 30, 1: 5})
        machine.step()
        self.assertEqual(carried(machine, other, 8).go(), {0: 30, 1: 5})
        # What was told already is told by neither rest.
        machine.step()
        self.assertEqual(carried(machine, other, 9).go(), {0: 30, 1: 5})
        self.fails(UnlikeRest, (1, {}), carried, machine, other, 8)

    def test_unlike(self):
        machine = Machine(ONE, 8, {"x": 3, "n": 5})
        self.fails(UnlikeRest, (0, {"n": 0, "re": 1, "x": 0}), carried, machine, OTHER, 0)
        self.fails(UnlikeRest, (0, {}), carried, machine, OTHER, 7)
        machine.go_to(6)
        self.fails(UnlikeRest, (0, {"rb": 0, "re": 1}), carried, machine, OTHER, 5)
        self.assertEqual(machine.at, 6)
        # At a lesser width they are alike.
        double = (("shl", 0, 0, 1), ("out", 0, 0))
        zero = (("set", 0, 0), ("out", 0, 0))
        self.assertEqual(carried(Machine(double, 1, {}), zero, 0).go(), {0: 0})
        self.fails(UnlikeRest, (0, {"ra": 1}), carried, Machine(double, 2, {}), zero, 0)

    def test_by_lot(self):
        """Wherever rests are alike, the carried machine tells what the first one tells, from any state."""
        lot = by_lot(272)
        seen = 0
        for _ in range(40):
            made = plain_by_lot(lot, 2, 4)
            try:
                one, other = code_of(made, 16), code_of(made.laid(), 5)
            except (TooMany, BadCount):
                continue
            values = {"x": lot.randrange(4), "n": lot.randrange(4)}
            for at in places_of(one):
                for place in lot.sample(places_of(other), min(4, len(places_of(other)))) + [at]:
                    machine = Machine(one, 2, values)
                    if not machine.go_to(at):
                        continue
                    try:
                        moved = carried(machine, other, place)
                    except (UnlikeRest, Unreadable, TooMany, BadValue):
                        continue
                    told = slow_run_code(one, 2, values, (machine.registers, machine.slots, machine.outputs), at)[2]
                    self.assertEqual(moved.go(), told)
                    seen += 1
        self.assertGreater(seen, 100)

    def test_words_of_inputs(self):
        machine = Machine((("input", 0, "x"), ("out", 0, 0)), 8, {"x": 3, "y": 4})
        self.fails(BadValue, "y", carried, machine, (("input", 0, "y"), ("out", 0, 0)), 0)
        self.assertEqual(carried(machine, (("input", 0, "y"), ("input", 0, "x"), ("out", 0, 0)), 1).go(), {0: 3})

    def test_order_of_errors(self):
        machine = Machine(ONE, 8, {"x": 3, "n": 5})
        machine.go_to(4)
        for thing in not_codes():
            self.fails(BadCode, -1, carried, machine, thing, None)
        self.fails(BadCode, 1, carried, machine, (("set", 0, 0), AGAIN), None)
        self.fails(BadPlace, 4, carried, machine, ONE, None)
        machine.go_to(5)
        self.fails(BadPlace, 5, carried, machine, ONE, None)
        machine.go_to(6)
        for place in not_integers() + [3, 4, 5, -1, 8, 10 ** 5000]:
            self.fails(BadPlace, place, carried, machine, ONE, place)
        names = (("input", 0, "z"), ("input", 0, "rb"), ("out", 0, 0))
        self.fails(BadValue, "rb", carried, machine, names, 0)
        self.fails(BadName, "rb", carried, machine, names, 2)
        other = Machine((("input", 0, "rb"), ("out", 0, 0)), 8, {"rb": 3})
        self.fails(BadName, "rb", carried, other, (("out", 0, 0),), 0)
        lost = (("set", 0, 0), ("loop", 1, 0), AGAIN, ("out", 0, 1))
        self.fails(Unreadable, 3, carried, machine, lost, 0)
        self.fails(TooMany, None, carried, Machine(ONE, 64, {"x": 3, "n": 5}), (("input", 0, "x"),) + (("mul", 0, 0, 0),) * 4, 0)
        lost_one = Machine(lost, 8, {})
        self.fails(Unreadable, 3, carried, lost_one, ONE[6:], 0)
