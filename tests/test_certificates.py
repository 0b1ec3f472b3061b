import unittest

from mendedruns.certificates import certificate, first_wrong_commit
from mendedruns.desks import Desk
from mendedruns.errors import Broken, InvalidProgram, InvalidState
from mendedruns.running import run
from mendedruns.values import are_equal
from tests.building import ENDLESS, RAISE_ALL, let, n, v, write
from tests.strange import STRANGE
from tests.test_desks import ADD_ARGUMENT, HOLDS, LESSEN, NOT_BELOW_ZERO, RAISE, TAKE, busy_desk
from tests.test_running import WRONG_STATES

PARTS = ["name", "program", "arguments", "steps", "ending"]
STATE = {"x": 3, "y": 1}
CONSTRAINTS = (HOLDS, NOT_BELOW_ZERO)


def history():
    """Return a desk with commits of all kinds, that begins with STATE and CONSTRAINTS."""
    desk = Desk(STATE, constraints=CONSTRAINTS)
    runs = (
        ("one", RAISE, None), ("gone", RAISE, None), ("two", LESSEN, {"b": 9}), ("three", ADD_ARGUMENT, {"z": (1, "a"), "b": 2}),
        ("four", TAKE, {}), ("five", (let("a", v(1)), ("refuse", v("no"))), None), ("six", (), None), ("seven", ENDLESS, None),
    )
    for name, program, arguments in runs:
        desk.begin(name, program, arguments=arguments)
        desk.advance(name, 2)
    desk.abort("gone")
    desk.commit_all(["three", "one"])
    desk.refresh("two")
    for name in ("two", "five", "six", "four", "seven"):
        desk.commit(name)
    desk.begin("left", RAISE)
    return desk


class CertificateTest(unittest.TestCase):
    def test_entries(self):
        made = certificate(history())
        self.assertEqual([entry[0] for entry in made], ["three", "one", "two", "five", "six", "four", "seven"])
        self.assertEqual(made[0], (
            "three", ADD_ARGUMENT, (("b", 2), ("z", (1, "a"))), tuple(run(ADD_ARGUMENT, STATE, arguments={"b": 2}).steps), (
                "returned", 2)))
        self.assertEqual(made[1], ("one", RAISE, (), tuple(run(RAISE, {"x": 5}).steps), ("returned", 5)))
        self.assertEqual(made[2], (
            "two", LESSEN, (("b", 9),), tuple(run(LESSEN, {"x": 6}, arguments={"b": 9}).steps), ("broken", 1)))
        self.assertEqual([entry[4] for entry in made[3:]], [
            ("refused", "no"), ("returned", ""), ("returned", "taken"), ("refused", "steps")])
        self.assertEqual((made[4][3], made[5][2], len(made[6][3])), ((), (), 1000))
        self.assertTrue(isinstance(made, list) and all(isinstance(entry, tuple) for entry in made))

    def test_no_commits(self):
        self.assertEqual(certificate(Desk({})), [])
        self.assertTrue(first_wrong_commit({}, []) is None)

    def test_the_desk_stays_as_it_was(self):
        desk, copy = history(), history()
        certificate(desk=desk).clear()
        self.assertTrue(desk == copy)
        self.assertEqual(len(certificate(desk)), 7)

    def test_behind_a_tidy(self):
        desk = history()
        desk.abort("left")
        made = certificate(desk)
        desk.tidy()
        self.assertTrue(are_equal(tuple(certificate(desk)), tuple(made)))

    def test_no_desks(self):
        for wrong in STRANGE + [0, "", {}, (), [], {"x": 1}]:
            with self.assertRaises(InvalidState) as caught:
                certificate(wrong)
            self.assertTrue(caught.exception.value is wrong)


class FirstWrongCommitTest(unittest.TestCase):
    def setUp(self):
        self.made = certificate(history())

    def check(self, value, wanted):
        self.assertEqual(first_wrong_commit(STATE, value, constraints=CONSTRAINTS), wanted)

    def check_changed(self, index, number, other, part):
        entry = self.made[index]
        changed = entry[:number] + (other,) + entry[number + 1:]
        self.check(self.made[:index] + [changed] + self.made[index + 1:], (index, part))

    def test_right_ones_and_their_beginnings(self):
        for count in range(len(self.made) + 1):
            self.check(self.made[:count], None)
        self.assertTrue(first_wrong_commit({"x": 3, "y": 1}, certificate(busy_desk()), constraints=CONSTRAINTS) is None)

    def test_one_part_changed(self):
        for index, entry in enumerate(self.made):
            for number, part in enumerate(PARTS):
                for other in STRANGE + [7, "A b", (7,), {}, []]:
                    self.check_changed(index, number, other, part)

    def test_names(self):
        self.check(self.made[:2] + [("new",) + self.made[2][1:]] + self.made[3:], None)
        self.check_changed(2, 0, "one", "name")
        self.check_changed(2, 0, "three", "name")
        self.check([("one",) + self.made[0][1:]] + self.made[1:], (1, "name"))
        for wrong in ("", "a0", "a" * 13, "A"):
            self.check_changed(0, 0, wrong, "name")

    def test_programs(self):
        for wrong in ((5,), RAISE + (("stop",),), (("call", "a", "f", ()),), list(RAISE), (let("a", v(1)),) * 101):
            self.check_changed(1, 1, wrong, "program")
        self.check_changed(1, 1, TAKE, "steps")
        self.check_changed(1, 1, RAISE[:2], "steps")
        self.check_changed(4, 1, (let("a", v(1)),), "steps")

    def test_programs_with_equal_steps(self):
        # Another program may take the same steps to the same ending.
        entry = self.made[1]
        other = (entry[0], RAISE + (let("b", v(1)),)) + entry[2:]
        self.check(self.made[:1] + [other] + self.made[2:], None)

    def test_arguments(self):
        for wrong in (None, {}, [], {"b": 2}, (("b", 2, 3),), (("b",),), (["b", 2],), ("b", 2), (("B", 2),), (("b", True),), (
                ("b", None),), (("b", 2), ("b", 2)), (("z", 1), ("b", 2)), (("b", 1), ("b", 2)), (("b", 2), 5), ((1, 2),),
                      (("b0", 2),), (("b", [2]),), (("b", 2), ("z", 1), ("a", 1))):
            self.check_changed(0, 2, wrong, "arguments")
        for other in ((), (("b", 3),), (("a", 2),)):
            self.check_changed(0, 2, other, "steps")
        entry = self.made[0]
        other = entry[:2] + ((("b", 2), ("c", 1), ("d", ())),) + entry[3:]
        self.check([other] + self.made[1:], None)

    def test_steps(self):
        for index in (0, 1, 2, 5):
            steps = self.made[index][3]
            wrong_ones = [steps[:-1], steps + steps[-1:], steps[1:], list(steps), steps[::-1], (), None, steps + (5,)]
            wrong_ones += [(steps[0][:2] + (("done", 77),),) + steps[1:], ((("0",),) + steps[0][1:],) + steps[1:]]
            for wrong in wrong_ones:
                self.check_changed(index, 3, wrong, "steps")

    def test_endings(self):
        for index, wrong_ones in (
                (0, [("returned", 3), ("refused", 2), ("broken", 0), ("returned",), ("returned", 2, 2), ["returned", 2], None]),
                (2, [("returned", 6), ("broken", 0), ("broken", 2), ("broken", True), ("refused", "below")]),
                (3, [("refused", ""), ("returned", "no"), ("returned", ""), ("broken", 0)]),
                (6, [("returned", ""), ("refused", "step")])):
            for wrong in wrong_ones:
                self.check_changed(index, 4, wrong, "ending")

    def test_first_wrong_part(self):
        for number, part in enumerate(PARTS):
            changed = self.made[1][:number] + (5,) * (5 - number)
            self.check(self.made[:1] + [changed, 5] + self.made[3:], (1, part))

    def test_entries_left_out(self):
        self.check(self.made[1:], (0, "steps"))
        self.check(self.made[:1] + self.made[2:], (1, "steps"))
        self.check(self.made[:2] + self.made[3:], None)
        self.check(self.made[:4] + self.made[5:], None)

    def test_entries_doubled(self):
        for index in range(len(self.made)):
            self.check(self.made[:index + 1] + self.made[index:], (index + 1, "name"))
        self.check(self.made + self.made[:1], (7, "name"))

    def test_entries_exchanged(self):
        self.check([self.made[1], self.made[0]] + self.made[2:], (0, "steps"))
        self.check(self.made[:1] + [self.made[2], self.made[1]] + self.made[3:], (1, "steps"))
        self.check(self.made[:3] + [self.made[4], self.made[3]] + self.made[5:], None)

    def test_one_and_true(self):
        program = (("if", n("a"), (let("b", n("c")),), ()), ("return", n("b")))
        desk = Desk({})
        desk.begin("one", program, arguments={"a": 1, "c": 0})
        desk.commit("one")
        made = certificate(desk)
        self.assertTrue(first_wrong_commit({}, made) is None)
        name, program, arguments, steps, ending = made[0]
        for number, other in (
                (1, (("if", n("a"), (let("b", n("c")),), ()), ("return", ("value", True)))),
                (2, (("a", True), ("c", 0))), (2, (("a", 1), ("c", False))),
                (3, (steps[0][:2] + (("done", True),),) + steps[1:]), (3, (((False,),) + steps[0][1:],) + steps[1:]),
                (3, ((steps[0][0], ((("name", "a"), True),), steps[0][2]),) + steps[1:]), (4, ("returned", False))):
            changed = made[0][:number] + (other,) + made[0][number + 1:]
            self.assertEqual(first_wrong_commit({}, [changed]), (0, PARTS[number]))

    def test_forms(self):
        for wrong in [value for value in STRANGE if not isinstance(value, list)] + [tuple(self.made), {}, "", 0, self.made[0]]:
            self.check(wrong, (0, "form"))
        for wrong in STRANGE + [(), self.made[2][:4], self.made[2] + (1,), list(self.made[2]), "abcde", {}, 0]:
            self.check(self.made[:2] + [wrong] + self.made[3:], (2, "form"))
            self.check([wrong], (0, "form"))

    def test_other_states_and_constraints(self):
        self.assertEqual(first_wrong_commit({"x": 2, "y": 1}, self.made, constraints=CONSTRAINTS), (0, "steps"))
        self.assertEqual(first_wrong_commit(STATE, self.made), (2, "ending"))
        self.assertEqual(first_wrong_commit(STATE, self.made, constraints=(NOT_BELOW_ZERO,)), (2, "ending"))
        self.assertTrue(first_wrong_commit(dict(STATE, q=1), self.made, constraints=CONSTRAINTS) is None)

    def test_states_behind_the_earlier_entries(self):
        desk = Desk({"ua": 1})
        for name, program in (("one", (write("ub", 5),)), ("two", RAISE_ALL), ("three", (("delete", v("ua")),)), ("four", RAISE_ALL)):
            desk.begin(name, program)
        desk.commit_all(["one", "two", "three", "four"])
        self.assertTrue(first_wrong_commit({"ua": 1}, certificate(desk)) is None)
        self.assertEqual(desk.state(), {"ub": 7})

    def test_more_commits_than_open_runs(self):
        desk = Desk({"x": 0})
        for number in range(60):
            name = "n" + "abcdefgh"[number // 8] + "abcdefgh"[number % 8]
            desk.begin(name, RAISE)
            desk.commit(name)
        self.assertTrue(first_wrong_commit({"x": 0}, certificate(desk)) is None)

    def test_nothing_is_changed(self):
        state, made = dict(STATE), list(self.made)
        first_wrong_commit(value=made, state=state, constraints=CONSTRAINTS)
        self.assertEqual((state, made), (STATE, self.made))

    def test_errors(self):
        wrong_program = (let("a", v(1)), ("if", v(1), (), (5,)))
        for value in (self.made, [], 5, None):
            for wrong in WRONG_STATES + [None]:
                with self.assertRaises(InvalidState) as caught:
                    first_wrong_commit(wrong, value, constraints=5)
                self.assertTrue(caught.exception.value is wrong)
            for wrong, place in ((5, ()), ([HOLDS], ()), ((HOLDS,) * 11, ()), ((5,) * 11, ()), ((HOLDS, wrong_program, 5), (
                    1, "else", 0)), ((NOT_BELOW_ZERO, 5), ())):
                with self.assertRaises(InvalidProgram) as caught:
                    first_wrong_commit({"x": -1}, value, constraints=wrong)
                self.assertEqual(caught.exception.place, place)
            with self.assertRaises(Broken) as caught:
                first_wrong_commit({"x": -1}, value, constraints=CONSTRAINTS)
            self.assertEqual(caught.exception.index, 1)
        self.assertRaises(TypeError, first_wrong_commit, STATE, [], ())


if __name__ == "__main__":
    unittest.main()
