import random
import time
import unittest

from mendedruns.desks import Desk
from mendedruns.errors import InvalidState, ParseError, UnknownMoment
from mendedruns.journals import check_number, journal, recover
from mendedruns.running import run
from mendedruns.stores import Store
from tests.building import LARGEST, SUM, Maker, write
from tests.strange import STRANGE
from tests.test_stores import three, wrote

THREE = "0 x=1 y=2 2938\n1 x=5 z=1 2957\n2 y! 609\n3 y=3 977\n"


def checked(words):
    """Return a line for some words, with its check number, found in another way."""
    total = 0
    for index in range(len(words)):
        total += (index + 1) * ord(words[index])
    return "%s %d\n" % (words, total % 1000003)


class CheckNumberTest(unittest.TestCase):
    def test_numbers(self):
        for text, number in (("0 -", 247), ("", 0), ("a", 97), ("ab", 97 + 2 * 98), ("ba", 98 + 2 * 97), ("0 x=1", 961), ("\n\n", 30), (
                "\u00e9", 233), ("\U0001f600", 128512), ("\ud800", 55296), ("\x00\x01", 2)):
            self.assertEqual(check_number(text), number)
        self.assertEqual(check_number(text="0 -"), 247)

    def test_modulus(self):
        self.assertEqual(check_number("\U000f4243"), 0)
        self.assertEqual(check_number("\U000f4244"), 1)
        self.assertEqual(check_number("\U000f4242"), 1000002)
        self.assertEqual(check_number("a" * 10 ** 5), 97 * (10 ** 5 * (10 ** 5 + 1) // 2) % 1000003)

    def test_no_strings(self):
        for wrong in STRANGE + [0, (), ("a",), {}, ["a"], b"0 -"]:
            for call in (check_number, recover):
                with self.assertRaises(ParseError) as caught:
                    call(wrong)
                self.assertTrue(caught.exception.text is wrong)


class JournalTest(unittest.TestCase):
    def test_example(self):
        self.assertEqual(journal(Store({"x": 1})), "0 x=1 961\n")

    def test_stores(self):
        self.assertEqual(journal(Store({})), "0 - 247\n")
        self.assertEqual(journal(store=three()), THREE)
        self.assertEqual(THREE, checked("0 x=1 y=2") + checked("1 x=5 z=1") + checked("2 y!") + checked("3 y=3"))

    def test_commits_without_a_change(self):
        store = Store({"x": 1})
        for trace in (run((), {}), wrote(x=1), wrote(y=None), run((write("x", 2), ("refuse", ("value", 1))), {})):
            store.commit(trace)
        self.assertEqual(journal(store), "".join(checked(words) for words in ("0 x=1", "1 -", "2 -", "3 -", "4 -")))

    def test_only_what_differs(self):
        store = Store({"x": 1, "y": 2})
        store.commit(wrote(x=1, y=3, z=None))
        store.commit(wrote(x=None, y=3, z=""))
        self.assertEqual(journal(store), checked("0 x=1 y=2") + checked("1 y=3") + checked("2 x! z='"))

    def test_values(self):
        for value, text in ((0, "0"), (-7, "-7"), (LARGEST, "9" * 60), ("", "'"), ("ab1", "'ab1"), ((), "[]"), ((1, "ab", ()), "[1_'ab_[]]"), (
                ((1, 2), "", -3), "[[1_2]_'_-3]")):
            store = Store({"k": value})
            self.assertEqual(journal(store), checked("0 k=" + text))
            store.commit(wrote(k=None))
            store.commit(wrote(k=value))
            self.assertEqual(journal(store), checked("0 k=" + text) + checked("1 k!") + checked("2 k=" + text))

    def test_ascending_keys(self):
        store = Store({"b": 1, "a": 2, "10": 3, "9": 4, "aa": 5, "z": 6})
        store.commit(wrote(z=None, a1=0, b=None, a0=1))
        self.assertEqual(journal(store), checked("0 10=3 9=4 a=2 aa=5 b=1 z=6") + checked("1 a0=1 a1=0 b! z!"))

    def test_many_moments(self):
        store = Store({})
        for number in range(12):
            store.commit(wrote(x=number))
        self.assertEqual(journal(store).split("\n")[11] + "\n", checked("11 x=10"))

    def test_dropped_states(self):
        store = three()
        store.drop(0)
        self.assertEqual(journal(store), THREE)
        for moment in (1, 3):
            store.drop(moment)
            with self.assertRaises(UnknownMoment) as caught:
                journal(store)
            self.assertEqual(caught.exception.value, 0)

    def test_no_stores(self):
        for wrong in STRANGE + [0, "", {}, (), {"x": 1}, Desk({})]:
            with self.assertRaises(InvalidState) as caught:
                journal(wrong)
            self.assertTrue(caught.exception.value is wrong)

    def test_the_store_stays_as_it_was(self):
        store = three()
        journal(store)
        self.assertTrue(store == three())


class RecoverTest(unittest.TestCase):
    def check(self, text, wanted, lost):
        """Check that a store equal to the wanted one is recovered, and how much is lost."""
        store, count = recover(text)
        self.assertEqual(count, lost)
        if wanted is None:
            self.assertTrue(store is None)
        else:
            self.assertTrue(isinstance(store, Store) and store == wanted)
            self.assertEqual((store.kept, store.now), (wanted.kept, wanted.now))

    def check_line(self, line, is_right=False):
        """Check a line for the moment 4 of the store with the journal THREE."""
        text = THREE + line + "5 - 252\n"
        store, lost = recover(text)
        self.assertEqual((store.moment > 3, lost < len(text) - len(THREE)), (is_right, is_right), line)
        if not is_right:
            self.check(text, three(), len(line) + 8)

    def test_whole_journals(self):
        self.check(THREE, three(), 0)
        self.check("0 - 247\n", Store({}), 0)
        self.assertEqual(recover(text="0 x=1 961\n")[0].now, {"x": 1})

    def test_nothing_right(self):
        for text in ("", "\n", "\n\n", "0 - 247", "0 - 248\n", "1 - 248\n", "0  247\n", "0 247\n", "247\n", " 0 - 247\n", "x\n" * 5, "0 - 247\r\n",
                     "\n0 - 247\n", THREE[1:], "\u00e9" * 7, "0 -  247\n", "0 - 247 \n", "0 - 0247\n", "00 - 343\n", "0 - +247\n"):
            self.check(text, None, len(text))

    def test_cut_at_every_place(self):
        lines = THREE.split("\n")[:-1]
        stores = [three() for line in lines]
        ends = [len("\n".join(lines[:count])) + 1 for count in range(1, 5)]
        wanted = []
        for moment in range(4):
            store = Store({"x": 1, "y": 2})
            for trace in (wrote(x=5, z=1), wrote(y=None), wrote(x=5, y=3))[:moment]:
                store.commit(trace)
            wanted.append(store)
        self.assertTrue(wanted[3] == stores[0])
        for cut in range(len(THREE) + 1):
            count = len([end for end in ends if end <= cut])
            self.check(THREE[:cut], wanted[count - 1] if count else None, cut - ends[count - 1] if count else cut)

    def test_spoilt_at_every_place(self):
        chooser = random.Random(113)
        ends = [0]
        for line in THREE.split("\n")[:-1]:
            ends.append(ends[-1] + len(line) + 1)
        for index in range(len(THREE)):
            first = len([end for end in ends[1:] if end <= index])
            wanted = recover(THREE[:ends[first]])[0]
            for sign in set(" 01=x!-'\n[" + chooser.choice("abz_29")) - {THREE[index]}:
                for text in (THREE[:index] + sign + THREE[index + 1:], THREE[:index] + THREE[index + 1:]):
                    self.check(text, wanted, len(text) - ends[first])

    def test_signs_put_in(self):
        for index in range(len(THREE)):
            for sign in " 0x!\n":
                text = THREE[:index] + sign + THREE[index:]
                store, lost = recover(text)
                taken = len(text) - lost
                self.assertEqual(text[:taken], THREE[:taken])
                self.assertTrue(taken <= index + 1 and THREE[:taken][-1:] in ("", "\n"))
                self.assertTrue((store is None) == (taken == 0))

    def test_right_lines(self):
        for words in ("4 -", "4 x!", "4 x=6", "4 y=[]", "4 x! y! z!", "4 0='", "4 q=[1_2] x=7", "4 x='5"):
            self.check_line(checked(words), True)

    def test_lines_that_no_journal_would_have(self):
        for words in (
                "3 -", "5 -", "04 -", "+4 -", " 4 -", "-4 -", "4", "4 ", "4  -", "4 - ", "4 - -", "4 - x!", "4 x! -", "4 x=5", "4 y=3 z!", "4 q!",
                "4 x! q!", "4 z! x!", "4 z=2 x=2", "4 x=2 x=3", "4 x=3 x=3", "4 x! x!", "4 x! x=1", "4 x=", "4 x", "4 =", "4 =1", "4 !", "4 x!1",
                "4 x!!", "4 x=!", "4 x=1!", "4 X=1", "4 x1.=1", "4 x_=1", "4 'x=1", "4 x=01", "4 x=-0", "4 x=+1", "4 x==1", "4 x=1=1", "4 x=a",
                "4 x='A", "4 x=[1 2]", "4 x=[1__2]", "4 x=[1_]", "4 x=[_1]", "4 x=_1", "4 x=1_", "4 x=[1_2", "4 x=1_2", "4 x=1]", "4 x=(1)", "4 x={}",
                "4 x=None", "4 x=True", "4 x=" + "9" * 61, "4 x=" + "9" * 5000, "4 x='" + "a" * 61, "4 x=" + "[" * 6 + "]" * 6, "4 " + "a" * 61 + "=1",
                "4 x=" + "[" * 5000, "4 x=" + "[" * 5000 + "]" * 5000, "4 x=[" + "_".join("0" * 51) + "]", "4 x=6\r", "4 x=6,y=1", "4 x=6;", "4 x:6",
                "4 \u00e9=1", "4 x=\u0661", "4 x=6\ty=1", "4 x=6  y=1", "4 x-", "\u0664 -", "4 --", "4 _", "x -", "4.0 -"):
            self.check_line(checked(words))

    def test_check_numbers(self):
        for line in ("4 - 251\n", "4 -\n", "4 - 0251\n", "4 - 250\n", "4 - 252\n", "4 - -251\n", "4 - +251\n", "4 - 1000254\n", "4 - 251.0\n", "4 -251\n",
                     "4 -  251\n", "4 - 251 \n", "4 - 251 251\n", "4 - \n", "4 - x\n", "4 - 25_1\n", "4 - \u0662\u0665\u0661\n", "4 - 251\r\n",
                     "4 - " + "9" * 5000 + "\n"):
            self.check_line(line, line == "4 - 251\n")

    def test_behind_the_first_wrong_line(self):
        lines = THREE.split("\n")[:-1]
        for wrong in ("", "x", lines[0], lines[1], "2 - 249x"):
            text = "\n".join(lines[:2] + [wrong] + lines[2:]) + "\n"
            self.check(text, recover("\n".join(lines[:2]) + "\n")[0], len("\n".join([wrong] + lines[2:])) + 1)
        for index in range(4):
            text = "\n".join(lines[:index] + lines[index + 1:]) + "\n"
            left = "\n".join(lines[index + 1:]) + "\n" if lines[index + 1:] else ""
            self.check(text, recover("\n".join(lines[:index]) + "\n")[0] if index else None, len(left))
        self.check(THREE + THREE, three(), len(THREE))
        self.check(THREE + "\n", three(), 1)

    def test_lines_that_are_right_elsewhere(self):
        # Each of these lines has its check number, and a change that is none behind the lines before it.
        text = checked("0 x=1") + checked("1 x=2") + checked("2 x=2")
        self.check(text, recover(text[:20])[0], len(checked("2 x=2")))
        self.assertEqual(recover(text)[0].now, {"x": 2})
        self.check(checked("0 x!"), None, len(checked("0 x!")))
        self.check(checked("0 x=1 y!"), None, len(checked("0 x=1 y!")))

    def test_recovered_stores_go_on(self):
        text = journal(three())
        store, lost = recover(text)
        store.commit(wrote(x=9))
        self.assertEqual((store.moment, store[3], store.changed("x")), (4, three().now, [1, 4]))
        self.assertTrue(recover(text)[0] == three())
        self.assertEqual(recover(journal(store))[0].now, store.now)

    def test_random_stores(self):
        maker = Maker(random.Random(127))
        for turn in range(60):
            desk = Desk(maker.state())
            for name in ["n" + sign for sign in "abcdefghij"]:
                desk.begin(name, maker.program(maker.random.randrange(1, 15)), arguments=maker.arguments())
                desk.commit(name)
            text = journal(desk.store)
            self.check(text, desk.store, 0)
            cut = maker.random.randrange(len(text) + 1)
            store, lost = recover(text[:cut])
            kept = text[:cut - lost]
            self.assertEqual(kept.count("\n"), text[:cut].count("\n"))
            self.assertEqual(journal(store) if store else "", kept)
            self.assertTrue(store is None or [store[moment] for moment in store.kept] == [desk.state(moment) for moment in store.kept])

    def test_long_journals(self):
        store = Store({"k" + str(number): number for number in range(500)})
        for number in range(1500):
            store.commit(wrote(x=number, y=number // 2))
        begin = time.process_time()
        text = journal(store)
        self.check(text, store, 0)
        self.check(text * 2, store, len(text))
        self.assertTrue(time.process_time() - begin < 5)

    def test_long_texts(self):
        begin = time.process_time()
        for text in ("x" * 10 ** 6, "\n" * 10 ** 5, " " * 10 ** 6 + "\n", "0 " + "x=1 " * 10 ** 5 + "5\n", "0 - " + "2" * 10 ** 6 + "\n", "0 x=" + "[" * 10 ** 6 + " 5\n"):
            self.check(text, None, len(text))
        self.assertTrue(time.process_time() - begin < 5)


if __name__ == "__main__":
    unittest.main()
