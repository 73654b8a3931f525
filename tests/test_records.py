"""Records: points 5, 6, 13 and 14, and the interface of stage 4."""

import itertools
import random
import unittest

from farenough.errors import Clash, Gap, NoPlace, Rewritten
from farenough.records import Record
from farenough.steps import in_order, is_behind
from farenough.workshops import Workshop
from samples import STOP, put
from worlds import World

A, B = ("src", "a"), ("src", "b")
READ, PAIR = ("read", (A,)), ("read", (A, B))


def at(*answers, count=0, recipe="r", arguments=()):
    return (recipe, arguments, answers, count)


# A write, a read, two ways behind it, one of them with another read behind a write.
ROWS = [(at(), put("x")), (at(count=1), READ), (at(("1",)), STOP), (at((None,)), put("y")),
        (at((None,), count=1), PAIR), (at((None,), ("1", None)), STOP)]
OTHERS = [(at(recipe="q"), READ), (at(("1",), recipe="q"), put("x")), (at(arguments=("v",)), STOP)]


class RecordTest(unittest.TestCase):

    def fault(self, error, spot, pairs):
        for order in itertools.islice(itertools.permutations(pairs), 200):
            with self.assertRaises(error) as caught:
                Record(list(order))
            self.assertEqual(caught.exception.spot, spot)
            self.assertIs(type(caught.exception), error)

    def same(self, record, pairs):
        """Whether a record has exactly these pairs, by everything that can be asked of it."""
        self.assertIs(type(record), Record)
        pairs = dict(pairs)
        self.assertEqual(list(record.steps()), [(place, pairs[place]) for place in in_order(list(pairs))])
        self.assertEqual(len(record), len(pairs))
        self.assertIs(bool(record), len(pairs) > 0)
        for place in pairs:
            self.assertIs(place in record, True)
            self.assertEqual(record[place], pairs[place])
        self.assertIs(record == Record(list(pairs.items())), True)


class MadeTest(RecordTest):

    def test_pairs_in_any_order(self):
        for order in itertools.permutations(ROWS):
            self.same(Record(list(order)), ROWS)
        self.same(Record(tuple(ROWS + OTHERS)), ROWS + OTHERS)

    def test_pairs_several_times(self):
        self.same(Record(ROWS[::-1] + ROWS + ROWS[2:3]), ROWS)

    def test_empty(self):
        for record in [Record(), Record([]), Record(()), Record(steps=[])]:
            self.same(record, [])

    def test_the_list_may_be_changed_afterwards(self):
        rows = list(ROWS)
        record = Record(steps=rows)
        rows.clear()
        rows.append((at(), STOP))
        self.same(record, ROWS)

    def test_what_is_passed_stays(self):
        rows = ROWS[::-1] + ROWS[:2]
        before = list(rows)
        Record(rows)
        self.assertEqual(rows, before)

    def test_a_place_that_has_two_steps(self):
        self.fault(Clash, at(), [(at(), STOP), (at(), READ)])
        self.fault(Clash, at(), [(at(), put("x", "1")), (at(), put("x", "2"))])
        self.fault(Clash, at(), [(at(), ("read", (A, B))), (at(), ("read", (B, A)))])
        self.fault(Clash, at(count=1), [(at(), put("x")), (at(count=1), put("y")), (at(count=1), STOP)])

    def test_the_first_place_in_order_that_has_two_steps(self):
        first, second = at((None,)), at(("",))
        rows = [(at(), READ), (first, STOP), (second, STOP), (first, READ), (second, READ)]
        self.fault(Clash, first, rows)
        rows = [(at(recipe="b"), STOP), (at(recipe="a"), STOP), (at(recipe="b"), READ), (at(recipe="a"), READ)]
        self.fault(Clash, at(recipe="a"), rows)

    def test_two_steps_and_the_first_of_them_again(self):
        self.fault(Clash, at(), [(at(), STOP), (at(), READ), (at(), STOP)])

    def test_two_steps_come_ahead_of_all_else(self):
        late = [(at(recipe="z"), STOP), (at(recipe="z"), READ)]
        self.fault(Clash, at(recipe="z"), late + [(at(count=1), STOP)])
        self.fault(Clash, at(recipe="z"), late + [(at(), put("x")), (at(count=1), put("x"))])

    def test_a_write_left_out(self):
        self.fault(Gap, at(count=1), [(at(count=1), STOP)])
        self.fault(Gap, at(count=2), [(at(), put("x")), (at(count=2), STOP)])
        self.fault(Gap, at(("1",), count=1), [(at(), READ), (at(("1",), count=1), STOP)])

    def test_a_read_left_out(self):
        self.fault(Gap, at(("1",)), [(at(("1",)), STOP)])
        self.fault(Gap, at(("1",)), [(at(), put("x")), (at(("1",)), STOP)])
        self.fault(Gap, at(("1",), ("2",)), [(at(), READ), (at(("1",), ("2",)), STOP)])
        self.fault(Gap, at(("1",), ("2",)), [(at(), READ), (at(("3",)), READ), (at(("1",), ("2",)), STOP)])

    def test_a_read_of_another_number_of_keys(self):
        self.fault(Gap, at(("1", "2")), [(at(), READ), (at(("1", "2")), STOP)])
        self.fault(Gap, at(("1",)), [(at(), PAIR), (at(("1",)), STOP)])
        self.fault(Gap, at(("1",), (None,)), [(at(), READ), (at(("1",)), PAIR), (at(("1",), (None,)), STOP)])

    def test_a_count_that_is_too_great(self):
        self.fault(Gap, at(count=1), [(at(), READ), (at(count=1), STOP)])
        self.fault(Gap, at(count=2), [(at(), put("x")), (at(count=1), READ), (at(count=2), put("y"))])
        self.fault(Gap, at(("1",), count=7), [(at(), READ), (at(("1",)), put("x")), (at(("1",), count=7), put("y"))])

    def test_a_step_behind_a_stop(self):
        self.fault(Gap, at(count=1), [(at(), STOP), (at(count=1), STOP)])
        self.fault(Gap, at(("1",)), [(at(), STOP), (at(("1",)), STOP)])

    def test_a_read_that_is_itself_not_led_to(self):
        self.fault(Gap, at(count=3), [(at(), put("x")), (at(count=3), READ), (at(("1",)), STOP)])
        self.fault(Gap, at(count=1), [(at(), PAIR), (at(count=1), READ), (at(("1",)), STOP), (at(("1", "2")), STOP)])

    def test_steps_of_other_recipes_and_arguments_lead_nowhere(self):
        self.fault(Gap, at(count=1), [(at(recipe="q"), put("x")), (at(count=1), STOP)])
        self.fault(Gap, at(count=1), [(at(arguments=("v",)), put("x")), (at(count=1), STOP)])
        self.fault(Gap, at(("1",)), [(at(recipe="q"), READ), (at(("1",)), STOP)])

    def test_an_output_written_twice(self):
        self.fault(Rewritten, at(count=1), [(at(), put("x")), (at(count=1), put("x", "2"))])
        self.fault(Rewritten, at(("1",)), [(at(), put("x")), (at(count=1), READ), (at(("1",)), put("x"))])
        rows = [(at(), READ), (at(("1",)), put("y")), (at(("1",), count=1), READ)]
        self.fault(Rewritten, at(("1",), ("2",)), rows + [(at(("1",), ("2",)), put("y"))])

    def test_an_output_written_on_two_ways(self):
        self.same(Record([(at(), READ), (at(("1",)), put("x")), (at(("2",)), put("x"))]),
                  [(at(), READ), (at(("1",)), put("x")), (at(("2",)), put("x"))])

    def test_the_first_fault_in_order(self):
        gap, again = (at(count=3), STOP), (at(count=1), put("x"))
        self.fault(Rewritten, at(count=1), [(at(), put("x")), again, gap])
        self.fault(Gap, at(count=3), [(at(), put("x")), (at(count=1), READ), gap, (at(("1",)), put("x"))])
        self.fault(Gap, at(count=1, recipe="q"), [(at(count=1, recipe="q"), STOP), (at(), put("x")), again])
        self.fault(Gap, at((None,), ("1",)), [(at(), READ), (at((None,), ("1",)), STOP), (at(("",), ("1",)), STOP)])

    def test_no_record_of_a_fault(self):
        self.assertRaises(Gap, Record, ROWS[1:])
        self.assertRaises(Gap, Record, ROWS[:3] + ROWS[4:])


class AskedTest(RecordTest):

    def setUp(self):
        self.record = Record(ROWS + OTHERS)

    def test_no_place(self):
        for spot in [at(count=2), at(("2",)), at(recipe="z"), at(("1",), arguments=("v",)), at(count=-1)]:
            self.assertIs(spot in self.record, False)
            with self.assertRaises(NoPlace) as caught:
                self.record[spot]
            self.assertEqual(caught.exception.spot, spot)
        self.assertRaises(NoPlace, lambda: Record()[at()])

    def test_not_iterated_over(self):
        self.assertRaises(TypeError, iter, self.record)
        self.assertRaises(TypeError, list, self.record)

    def test_equal(self):
        self.assertIs(self.record == Record(OTHERS + ROWS[::-1]), True)
        self.assertIs(self.record != Record(OTHERS + ROWS[::-1]), False)
        self.assertIs(self.record == Record(ROWS), False)
        self.assertIs(Record([(at(), STOP)]) == Record([(at(), READ)]), False)
        self.assertIs(Record([(at(), put("x", "1"))]) == Record([(at(), put("x", "2"))]), False)
        self.assertIs(Record() == Record([]), True)

    def test_equal_to_no_value_of_another_class(self):
        for value in [None, (), [], {}, 0, ROWS, dict(ROWS), False, "", object()]:
            for record in [self.record, Record(ROWS), Record()]:
                self.assertIs(record == value, False)
                self.assertIs(record != value, True)

    def test_steps_in_order(self):
        pairs = list(self.record.steps())
        self.assertEqual([place for place, _ in pairs], in_order([place for place, _ in ROWS + OTHERS]))
        self.assertEqual(dict(pairs), dict(ROWS + OTHERS))
        self.assertEqual(list(Record().steps()), [])

    def test_steps_left_early_and_begun_again(self):
        steps = self.record.steps()
        first = next(steps)
        self.assertEqual(next(self.record.steps()), first)
        self.assertEqual(first, OTHERS[0])
        self.assertEqual(next(steps), OTHERS[1])
        steps.close()
        self.assertEqual(list(self.record.steps())[:2], OTHERS[:2])
        self.assertIsNot(self.record.steps(), self.record.steps())

    def test_ends(self):
        ends = [at(("1",), recipe="q"), at((None,), ("1", None)), at(("1",)), at(arguments=("v",))]
        self.assertEqual(self.record.ends(), ends)
        self.assertEqual(Record(ROWS[:2]).ends(), [at(count=1)])
        self.assertEqual(Record(ROWS[:1]).ends(), [at()])
        self.assertEqual(Record().ends(), [])
        ends = self.record.ends()
        ends.clear()
        self.assertEqual(len(self.record.ends()), 4)

    def test_without(self):
        self.same(self.record.without(at()), OTHERS)
        self.same(self.record.without(at(count=1)), ROWS[:1] + OTHERS)
        self.same(self.record.without(at((None,))), ROWS[:3] + OTHERS)
        self.same(self.record.without(at((None,), count=1)), ROWS[:4] + OTHERS)
        self.same(self.record.without(at(("1",))), ROWS[:2] + ROWS[3:] + OTHERS)
        self.same(self.record.without(at(arguments=("v",))), ROWS + OTHERS[:2])
        self.same(self.record, ROWS + OTHERS)

    def test_without_what_is_not_there(self):
        for place in [at(count=2), at(("2",)), at(("1",), count=1), at(recipe="z"), at((None,), count=9), at(("1",), ())]:
            self.same(self.record.without(place), ROWS + OTHERS)
        self.same(Record().without(at()), [])

    def test_is_within(self):
        part = Record(ROWS[:3])
        for one, other, right in [(part, self.record, True), (self.record, part, False), (part, part, True),
                                  (Record(), part, True), (part, Record(), False), (Record(), Record(), True),
                                  (Record([(at(), READ)]), part, False), (part, Record(OTHERS), False)]:
            self.assertIs(one.is_within(other), right)
        self.assertIs(Record([(at(), put("x", "2"))]).is_within(part), False)


class TogetherTest(RecordTest):

    def setUp(self):
        self.one, self.other = Record(ROWS[:3] + OTHERS[:1]), Record(ROWS[:2] + ROWS[3:] + OTHERS[2:])

    def tearDown(self):
        self.same(self.one, ROWS[:3] + OTHERS[:1])
        self.same(self.other, ROWS[:2] + ROWS[3:] + OTHERS[2:])

    def test_some_steps_shared(self):
        for one, other in [(self.one, self.other), (self.other, self.one)]:
            self.same(one | other, ROWS + OTHERS[:1] + OTHERS[2:])
            self.same(one & other, ROWS[:2])
        self.same(self.one - self.other, OTHERS[:1])
        self.same(self.other - self.one, OTHERS[2:])

    def test_equal_ones(self):
        again = Record(ROWS[:3] + OTHERS[:1])
        self.same(self.one | again, ROWS[:3] + OTHERS[:1])
        self.same(self.one & again, ROWS[:3] + OTHERS[:1])
        self.same(self.one - again, [])
        self.same(self.one - self.one, [])

    def test_empty_ones(self):
        self.same(self.one | Record(), ROWS[:3] + OTHERS[:1])
        self.same(Record() | self.one, ROWS[:3] + OTHERS[:1])
        self.same(self.one & Record(), [])
        self.same(Record() & self.one, [])
        self.same(self.one - Record(), ROWS[:3] + OTHERS[:1])
        self.same(Record() - self.one, [])
        self.same(Record() | Record(), [])

    def test_two_that_differ_at_a_place(self):
        other = Record([(at(), READ), (at(("1",)), STOP), (at(recipe="q"), READ)])
        for one, two in [(self.one, other), (other, self.one)]:
            with self.assertRaises(Clash) as caught:
                one | two
            self.assertEqual(caught.exception.spot, at())
        self.same(self.one & other, OTHERS[:1])
        self.same(self.one - other, [])
        self.same(other - self.one, [])

    def test_the_first_place_at_which_two_differ(self):
        one = Record([(at(), READ), (at(("",)), STOP), (at((None,)), STOP), (at(("b",)), STOP)])
        other = Record([(at(), READ), (at(("b",)), READ), (at((None,)), READ), (at(("",)), READ)])
        with self.assertRaises(Clash) as caught:
            one | other
        self.assertEqual(caught.exception.spot, at((None,)))
        with self.assertRaises(Clash) as caught:
            one | Record(OTHERS) | Record([(at(("1",), recipe="q"), STOP), (at(recipe="q"), READ)])
        self.assertEqual(caught.exception.spot, at(("1",), recipe="q"))
        self.same(one & other, [(at(), READ)])

    def test_a_place_of_both_with_other_steps_ahead(self):
        one = Record([(at(), put("x")), (at(count=1), READ), (at(("1",)), STOP)])
        for rows in [[(at(), READ), (at(("1",)), STOP)],
                     [(at(), put("x", "2")), (at(count=1), READ), (at(("1",)), STOP)],
                     [(at(), put("x")), (at(count=1), put("y")), (at(count=2), READ), (at(("1",)), STOP)],
                     [(at(), put("x")), (at(count=1), ("read", (B,))), (at(("1",)), STOP)]]:
            other = Record(rows)
            same = [(at(), put("x"))] if rows[0] == (at(), put("x")) else []
            self.same(one & other, same)
            self.same(other & one, same)

    def test_an_earlier_step_that_one_of_the_two_lacks(self):
        short = Record([(at(), READ), (at(("1",)), put("x")), (at(("1",), count=1), STOP)])
        long = Record([(at(), put("y")), (at(count=1), READ), (at(("1",)), put("x")), (at(("1",), count=1), STOP)])
        self.same(short & long, [])
        self.same(long & short, [])
        self.same(long - short, [])

    def test_without_what_the_other_has_and_all_behind(self):
        self.same(Record(ROWS) - Record(ROWS[:1]), [])
        self.same(Record(ROWS + OTHERS) - Record(OTHERS[:1]), ROWS + OTHERS[2:])
        self.same(Record(ROWS + OTHERS) - Record([(at(recipe="q"), STOP)]), ROWS + OTHERS[2:])

    def test_all_small_parts(self):
        """Every part of a record against the words of the interface, place by place."""
        rows = ROWS[:4] + OTHERS[:2]
        parts = []
        for many in range(len(rows) + 1):
            for some in itertools.combinations(rows, many):
                try:
                    parts.append(Record(some))
                except Gap:
                    pass
        changed = [Record([(at(), put("x")), (at(count=1), PAIR)]), Record([(at(), READ), (at(("1",)), STOP)])]
        for one, other in itertools.product(parts + changed, repeat=2):
            self.compare(one, other)

    def test_records_of_workshops(self):
        world, chance = World(7, [("r1",)]), random.Random(8)
        for _ in range(200):
            one = self.seen(world.workshop(), chance)
            other = self.seen(world.workshop(), chance)
            some = Record([pair for pair in one.steps()][:chance.randint(0, len(one))])
            for left, right in [(one, other), (one, some), (some, other)]:
                self.compare(left, right)
                self.compare(right, left)

    def seen(self, workshop, chance):
        """Some steps that a workshop takes, each with all that lead to it."""
        rows = []
        for _ in range(4):
            run = workshop.begin(chance.choice(["r0", "r1"]))
            for _ in range(chance.randint(0, 6)):
                if run.step == STOP:
                    break
                keys = run.step[1] if run.step[0] == "read" else ()
                run(tuple(chance.choice(["r0", None]) for _ in keys))
            rows += run.trail + ((run.place, run.step),)
        return Record(rows)

    def compare(self, one, other):
        mine, yours = dict(one.steps()), dict(other.steps())
        both = [place for place in mine if place in yours]
        differing = [place for place in both if mine[place] != yours[place]]
        self.assertIs(one.is_within(other), not differing and len(both) == len(mine))
        self.assertIs(one == other, mine == yours)
        if differing:
            with self.assertRaises(Clash) as caught:
                one | other
            self.assertEqual(caught.exception.spot, in_order(differing)[0])
        else:
            self.same(one | other, {**mine, **yours})
        same = [place for place in both if place not in differing]
        self.same(one & other, {place: mine[place] for place in same if all(
            ahead in same for ahead in {**mine, **yours} if is_behind(place, ahead))})
        self.same(one - other, {place: mine[place] for place in mine if place not in both and not any(
            is_behind(place, ahead) for ahead in both)})
        for place in yours:
            left = {some: mine[some] for some in mine if some != place and not is_behind(some, place)}
            self.same(one.without(place), left if place in mine else mine)
        ends = [place for place in mine if not any(is_behind(other, place) for other in mine)]
        self.assertEqual(one.ends(), in_order(ends))


class InterfaceTest(RecordTest):

    def test_methods_stand_in_the_class_itself(self):
        for name in ["__init__", "__contains__", "__len__", "__eq__", "__bool__", "__getitem__", "is_within", "__or__",
                     "__and__", "__sub__", "without", "steps", "ends"]:
            self.assertIn(name, vars(Record))

    def test_by_names(self):
        record = Record(steps=ROWS)
        self.assertIs(record.is_within(other=record), True)
        self.same(record.without(place=at()), [])

    def test_long_runs(self):
        rows = [(at(*[("1",)] * many), READ) for many in range(60)]
        record = Record(rows[::-1])
        self.same(record, rows)
        self.assertEqual(record.ends(), [at(*[("1",)] * 59)])
        self.same(record.without(at(*[("1",)] * 30)), rows[:30])

    def test_the_record_of_a_run(self):
        workshop = Workshop({"r": World(3).workshop()._recipe_of("r0")})
        run = workshop.begin("r")
        while run.step != STOP:
            run(tuple("r0" for _ in run.step[1]) if run.step[0] == "read" else ())
        self.same(Record(run.trail), run.trail)


if __name__ == "__main__":
    unittest.main()
