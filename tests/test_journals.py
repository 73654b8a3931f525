"""Journals: points 1 to 5 and 13, and the interface of stage 12 under this file."""

import random
import unittest

from farenough.engine import Engine
from farenough.errors import BadEntry, Clash, Gap, Rewritten
from farenough.journals import Journal
from farenough.records import Record
from samples import STOP, at, put, reads
from worlds import Layers, World


def line(body):
    return f"{len(body)} {sum(number * ord(sign) for number, sign in enumerate(body, 1)) % 9973} {body}\n"


def lines(*bodies):
    return "".join(map(line, bodies))


def worded(text):
    return "-" if text is None else f"{len(text)}:{text}"


class PlainJournal:
    """Writes entries by the words of stage 12."""

    def __init__(self):
        self.places, self.text = [], ""

    def add(self, place, step):
        recipe, arguments, answers, count = place
        if not answers and not count:
            words = ["root", worded(recipe), str(len(arguments)), *map(worded, arguments)]
        elif count:
            words = ["after", str(self.places.index((recipe, arguments, answers, count - 1)))]
        else:
            ahead = [number for number, other in enumerate(self.places) if other[:3] == (recipe, arguments, answers[:-1])]
            words = ["after", str(max(ahead, key=lambda number: self.places[number][3])), str(len(answers[-1]))]
            words += map(worded, answers[-1])
        if step[0] == "read":
            words += ["read", str(len(step[1]))] + [".".join(key) for key in step[1]]
        else:
            words += ["write", step[1], worded(step[2])] if step[0] == "write" else ["stop"]
        self.places.append(place)
        self.text += line(" ".join(words))


ROWS = [(at("r", arguments=("x", "")), put("o", "1:a b")), (at("r", count=1, arguments=("x", "")), reads(("a", "b"), ("c1", "d"))),
        (at("r", (None, "-"), arguments=("x", "")), reads(("a", "b"))),
        (at("r", (None, "-"), ("7 8:",), arguments=("x", "")), put("p", "")),
        (at("r", (None, "-"), ("7 8:",), count=1, arguments=("x", "")), STOP),
        (at("", ), STOP), (at("2:x stop"), put("q", "x" * 400)), (at("2:x stop", count=1), STOP)]


class JournalCase(unittest.TestCase):

    def bad(self, text, entry):
        with self.assertRaises(BadEntry) as caught:
            Journal(text)
        self.assertEqual(caught.exception.entry, entry)

    def whole(self, text, journal):
        read = Journal(text)
        self.assertIs(read.is_torn, False)
        self.assertEqual(read, journal)
        self.assertEqual((read.text, len(read), read.record), (text, len(journal), journal.record))

    def made(self, rows):
        journal, plain = Journal(), PlainJournal()
        for place, step in rows:
            self.assertIs(journal.add(place, step), True)
            plain.add(place, step)
            self.assertEqual(journal.text, plain.text)
        self.assertEqual(len(journal), len(rows))
        self.assertEqual(journal.record, Record(rows))
        self.whole(journal.text, journal)
        return journal


class AddTest(JournalCase):

    def test_the_example(self):
        journal = Journal()
        self.assertIs(journal.add(("r", ("x",), (), 0), ("read", (("lib", "list"),))), True)
        self.assertIs(journal.add(("r", ("x",), (("a b",),), 0), ("stop",)), True)
        self.assertEqual(journal.text, "30 8499 root 1:r 1 1:x read 1 lib.list\n20 6535 after 0 1 3:a b stop\n")
        self.whole(journal.text, journal)

    def test_the_empty_journal(self):
        for journal in [Journal(), Journal(""), Journal(text="")]:
            self.assertEqual((journal.text, journal.is_torn, journal.record, len(journal)), ("", False, Record(), 0))

    def test_odd_texts(self):
        journal = self.made(ROWS)
        self.assertEqual(journal.text.split("\n")[2].split(" ", 2)[2], "after 1 2 - 1:- read 1 a.b")
        for text in ["", " ", "-", "0:", "3:abc", '"', "1 2 stop", "x" * 400, "~", "\\", "[ ]"]:
            self.made([(at(text, arguments=(text,) * 4), reads(*[(f"t{number}", "o") for number in range(4)])),
                       (at(text, (text, None, "-", text), arguments=(text,) * 4), put("o", text))])

    def test_true_and_false(self):
        journal = self.made(ROWS)
        text = journal.text
        for place, step in ROWS:
            self.assertIs(journal.add(place, step), False)
            self.assertIs(journal.add(place=place, step=step), False)
        self.assertEqual((journal.text, len(journal)), (text, len(ROWS)))

    def refuses(self, journal, error, place, step):
        before = journal.text, len(journal), journal.record
        with self.assertRaises(error) as caught:
            journal.add(place, step)
        self.assertIs(type(caught.exception), error)
        self.assertEqual(caught.exception.spot, place)
        self.assertEqual((journal.text, len(journal), journal.record), before)

    def test_errors_in_their_order(self):
        rows = [(at("r"), put("o")), (at("r", count=1), reads(("a", "b"))), (at("r", ("1",)), put("p")),
                (at("r", ("1",), count=1), STOP), (at("s"), STOP)]
        journal = self.made(rows)
        for place, step in [(at("r"), put("o", "2")), (at("r"), STOP), (at("r", ("1",)), put("o")), (at("s"), put("o"))]:
            self.refuses(journal, Clash, place, step)
        for place in [at("r", count=2), at("r", ("1", "2")), at("r", ("1",), count=2), at("r", ("1",), ("1",)),
                      at("s", count=1), at("s", ("1",)), at("r", ("2",), count=1), at("q", count=1), at("q", ("1",)),
                      at("r", count=1, arguments=("x",))]:
            self.refuses(journal, Gap, place, put("o"))
        journal = self.made(rows[:2])
        self.refuses(journal, Rewritten, at("r", ("5",)), put("o"))
        self.assertIs(journal.add(at("r", ("5",)), put("p")), True)
        self.refuses(journal, Rewritten, at("r", ("5",), count=1), put("p", "other"))
        self.refuses(journal, Rewritten, at("r", ("5",), count=1), put("o"))
        self.assertIs(journal.add(at("r", ("5",), count=1), reads(("a", "b"))), True)
        self.refuses(journal, Rewritten, at("r", ("5",), ("5",)), put("o"))
        self.assertIs(journal.add(at("r", ("6",)), put("p")), True)

    def test_the_first_entry_of_the_place_ahead_is_named(self):
        text = lines("root 1:r 0 write o 0:", "root 1:r 0 write o 0:", "after 1 read 1 a.b", "after 0 read 1 a.b")
        journal = Journal(text)
        self.assertEqual((len(journal), len(journal.record)), (4, 2))
        journal.add(at("r", (None,)), STOP)
        self.assertEqual(journal.text, text + line("after 2 1 - stop"))


class KeepTest(JournalCase):

    def test_keep_in_order(self):
        record = Record(ROWS)
        journal, plain = Journal(), PlainJournal()
        self.assertEqual(journal.keep(record), len(ROWS))
        for place, step in record.steps():
            plain.add(place, step)
        self.assertEqual(journal.text, plain.text)
        self.assertEqual(journal.keep(record=record), 0)
        self.assertEqual(journal.text, plain.text)
        self.assertEqual(journal.keep(Record([(at("zz"), STOP), ROWS[5]])), 1)
        self.assertEqual(journal.keep(Record()), 0)

    def test_clash_before_anything_is_added(self):
        journal = self.made(ROWS)
        text = journal.text
        for rows, spot in [([(at(""), put("o")), (at("0"), STOP)], at("")),
                           ([(at("2:x stop"), put("q", "y")), (at("zz"), STOP), (at(""), put("o"))], at("")),
                           ([(at("r", arguments=("x", "")), put("o", "1:a b")),
                             (at("r", count=1, arguments=("x", "")), STOP)], at("r", count=1, arguments=("x", "")))]:
            with self.assertRaises(Clash) as caught:
                journal.keep(Record(rows))
            self.assertEqual(caught.exception.spot, spot)
            with self.assertRaises(Clash) as caught:
                journal.record | Record(rows)
            self.assertEqual(caught.exception.spot, spot)
            self.assertEqual(journal.text, text)

    def test_packed(self):
        text = lines("root 1:s 0 stop", "root 1:r 0 write o 0:", "root 1:s 0 stop", "after 1 stop")
        journal = Journal(text + "5 5")
        packed = journal.packed()
        self.assertEqual(packed.text, lines("root 1:r 0 write o 0:", "after 0 stop", "root 1:s 0 stop"))
        self.assertEqual((packed.record, len(packed), packed.is_torn), (journal.record, 3, False))
        packed.add(at("t"), STOP)
        self.assertEqual((journal.text, len(journal), journal.is_torn), (text, 4, True))
        self.assertEqual(packed.packed().text, lines("root 1:r 0 write o 0:", "after 0 stop", "root 1:s 0 stop", "root 1:t 0 stop"))

    def test_equal(self):
        one, other = Journal(lines("root 1:s 0 stop", "root 1:r 0 stop")), Journal(lines("root 1:r 0 stop", "root 1:s 0 stop") + "x")
        self.assertEqual(one, other)
        self.assertEqual(one, Journal(one.text + one.text))
        self.assertNotEqual(one, Journal(lines("root 1:r 0 stop")))
        for value in [one.record, one.text, None]:
            self.assertNotEqual(one, value)


class CutTest(JournalCase):

    def test_cut_off_after_each_character(self):
        journal = self.made(ROWS[:6])
        text, rows = journal.text, ROWS[:6]
        for many in range(len(text) + 1):
            read = Journal(text[:many])
            ends = [number for number, sign in enumerate(text[:many]) if sign == "\n"]
            self.assertIs(read.is_torn, many > 0 and text[many - 1] != "\n")
            self.assertEqual(len(read), len(ends))
            self.assertEqual(read.text, text[:ends[-1] + 1] if ends else "")
            self.assertEqual(read.record, Record(rows[:len(ends)]))
            read.keep(Record(rows))
            self.assertEqual(read, journal)
            self.assertIs(read.is_torn, many > 0 and text[many - 1] != "\n")

    def test_a_last_line_with_a_sign_changed_left_out_or_put_in(self):
        first = lines("root 1:r 1 1:x read 1 lib.list", "root 2:rr 0 stop")
        last = line("after 0 1 3:a b stop")
        for spot in range(len(last) - 1):
            for sign in ["", "0", "1", " ", "~", "a", last[spot] + "7", last[spot] + " "]:
                changed = last[:spot] + sign + last[spot + 1:]
                if changed == last:
                    continue
                read = Journal(first + changed)
                self.assertEqual((read.is_torn, read.text, len(read)), (True, first, 2))
                read = Journal(first + changed[:-1])
                self.assertEqual((read.is_torn, read.text, len(read)), (True, first, 2))
                self.bad(first + changed + line("root 1:q 0 stop"), 2)
                self.bad(first + changed + "x", 2)

    def test_numbers_that_are_written_otherwise(self):
        body = "root 1:r 0 stop"
        length, check, _ = line(body).split(" ", 2)
        for head in [f"0{length} {check}", f"{length} 0{check}", f"+{length} {check}", f"{length} {check}.", f"{length}  {check}",
                     f" {length} {check}", f"{length} ", f"{length}", "", f"{length} {int(check) + 9973}", "-1 0"]:
            read = Journal(f"{head} {body}\n")
            self.assertEqual((read.is_torn, len(read), read.text), (True, 0, ""))
            self.bad(f"{head} {body}\n" * 2, 0)
        self.assertIs(Journal("\n").is_torn, True)
        self.bad("\n\n", 0)


class BadEntryTest(JournalCase):

    FIRST = ["root 1:r 0 write o 1:1", "after 0 read 2 a.b c.d", "after 1 2 1:1 - stop", "root 1:s 4 0: 1:1 3:1 2 1:- stop"]

    def setUp(self):
        self.journal = Journal(lines(*self.FIRST))
        self.assertEqual(len(self.journal), 4)

    def test_bodies_that_have_no_form(self):
        for body in ["", " ", "root", "after", "stop", "Root 1:r 0 stop", "root  1:r 0 stop", "root 1:r 0 stop ", " root 1:r 0 stop",
                     "root 1:r stop", "root 1:r 0", "root 1:r 0 stop stop", "root 1:r 00 stop", "root 01:r 0 stop", "root 2:r 0 stop",
                     "root 0:r 0 stop", "root r 0 stop", "root - 0 stop", "root :r 0 stop", "root 1:r -1 stop", "root 1:r 1 - stop",
                     "root 1:r 1 stop", "root 1:r 5 1:a 1:a 1:a 1:a 1:a stop", "root 1:r 2 1:a stop", "root 1:r 1 1:a 1:b stop",
                     "root 401:" + "x" * 401 + " 0 stop", "root 1:r 1 401:" + "x" * 401 + " stop", "root 1:\x7f 0 stop", "root 1:\t 0 stop",
                     "root 1:q 0 read 0", "root 1:q 0 read 1", "root 1:q 0 read 1 a.b c.d", "root 1:q 0 read 2 a.b", "root 1:q 0 read a.b",
                     "root 1:q 0 read 2 a.b a.b", "root 1:q 0 read 5 a.a a.b a.c a.d a.e", "root 1:q 0 read 01 a.b", "root 1:q 0 read 1 a",
                     "root 1:q 0 read 1 a.", "root 1:q 0 read 1 .b", "root 1:q 0 read 1 a.b.c", "root 1:q 0 read 1 A.b",
                     "root 1:q 0 read 1 a23456789.b", "root 1:q 0 read 1 1a.b", "root 1:q 0 read 99999999999999999999 a.b",
                     "root 1:q 0 write o", "root 1:q 0 write o -", "root 1:q 0 write O 1:1", "root 1:q 0 write o 1:1 ",
                     "root 1:q 0 write o 1:12", "root 1:q 0 write o 2:1", "root 1:q 0 write o 401:" + "x" * 401, "root 1:q 0 write  0:",
                     "root 1:q 0 write o 00:", "root 1:q 0 halt", "root 1:q 0 stop 1", "root 1:q 0 write o p 0:",
                     "after 1 2 1:1 1:1", "after 1 2 1:1 stop", "after 1 02 1:1 1:1 stop", "after 01 2 1:1 1:1 stop",
                     "after 1 2 1:1 1:1 1:1 stop", "after 1 2 1:1 -- stop", "after 1 2 1:1 -1:1 stop", "after x stop", "after -1 stop",
                     "after +0 stop", "after 0stop", "after 1 0 stop", "after 1 5 - - - - - stop", "after  0 stop",
                     "root " + "9" * 5000 + ":r 0 stop", "after " + "9" * 5000 + " stop", "root \u00b2:rr 0 stop", "after \u0663 stop"]:
            self.bad(self.journal.text + line(body), 4)
            self.bad(self.journal.text + line(body) + line("root 1:z 0 stop"), 4)
            self.bad(line(body) + self.journal.text, 0)

    def test_lines_that_cannot_stand_where_they_stand(self):
        for body in ["after 4 stop", "after 99 stop", "after 2 stop", "after 3 stop", "after 1 stop", "after 0 1 1:1 stop",
                     "after 0 2 1:1 1:1 stop", "after 1 1 1:1 stop", "after 1 3 1:1 1:1 1:1 stop", "after 2 1 - stop",
                     "root 1:r 0 stop", "root 1:r 0 write o 1:2", "root 1:r 0 write p 1:1", "after 0 stop", "after 0 read 2 c.d a.b",
                     "after 0 read 1 a.b", "after 1 2 1:1 - write p 0:", "after 1 2 1:2 - write o 0:", "after 1 2 - - write o 1:1"]:
            self.bad(self.journal.text + line(body), 4)
            self.bad(self.journal.text + line("root 1:z 0 stop") + line(body) + "torn", 5)

    def test_lines_that_can_stand(self):
        for body in ["root 0: 0 stop", "root 1:r 1 1:r stop", "after 1 2 1:2 - write p 0:", "after 1 2 - 1:- stop",
                     "root 400:" + "x" * 400 + " 0 stop", "root 1:q 0 read 4 a.a a.b a.c a.d", "root 1:q 0 write o 400:" + "x" * 400,
                     "root 8:0 stop 1 1 5:a 1:b stop", "root 1:r 0 write o 1:1", "after 0 read 2 a.b c.d", "after 1 2 1:1 - stop"]:
            read = Journal(self.journal.text + line(body))
            self.assertEqual((read.is_torn, len(read), read.text), (False, 5, self.journal.text + line(body)))

    def test_places_that_stand_twice(self):
        for number in (0, 4):
            for other in (1, 5):
                text = lines(*self.FIRST, self.FIRST[0], f"after {number} read 2 a.b c.d", f"after {other} 2 - - stop")
                read = Journal(text)
                self.assertEqual((len(read), len(read.record), read.text), (7, 5, text))
                self.assertIn(at("r", (None, None), count=0), read.record)
        self.bad(lines(*self.FIRST, "after 0 read 2 a.b c.d", "after 4 2 1:1 - write p 0:"), 5)

    def test_the_first_line_at_fault(self):
        self.bad(lines("root 1:r 0 stop", "after 0 stop", "") + "x\ny\n", 1)
        self.bad("x\n" + lines(""), 0)


class WorldsTest(JournalCase):

    def test_records_of_engines(self):
        for seed in range(150):
            world = (World if seed % 2 else Layers)(seed, [("q", "1 2"), ("",)])
            engine = Engine(world.workshop())
            for _ in range(3):
                engine.pursue(world.project(), [world.key(), world.key()])
            journal = self.made(engine.news)
            self.assertEqual(journal.record, engine.record)
            packed = journal.packed()
            self.assertEqual(packed, journal)
            self.assertEqual([place for place, _ in packed.record.steps()], [place for place, _ in engine.record.steps()])
            chance = random.Random(seed)
            cut = Journal(journal.text[:chance.randint(0, len(journal.text))])
            self.assertTrue(cut.record.is_within(engine.record))
            lacking = len(engine.record) - len(cut.record)
            self.assertEqual(cut.keep(engine.record), lacking)
            self.whole(cut.text, cut)


if __name__ == "__main__":
    unittest.main()
