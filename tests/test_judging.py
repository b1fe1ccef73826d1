"""Which lists are histories, and where others go wrong [12]."""

import copy
import unittest

from tests.model import Model
from tests.things import (
    SAMPLE, Chances, answer, asked, chain, chance_deed, chance_plan, deep_things, done, names_in, rows, side_by_side,
    strange_things, warden, worker, workers_in,
)
from wardhouse.errors import BadHistory, BadPlan
from wardhouse.houses import House
from wardhouse.judging import house_of, judged

PLAN = warden(
    "top", worker("a"), worker("n", "never"), warden("in", worker("b"), worker("f", "faulted"), many=1, span=3),
    rule="rest", many=2, span=9)
BEGUN = "begins top, begins a, begins n, begins in, begins b, begins f, "


def same(one, other):
    """Equal, and of the same kinds all through."""
    if type(one) is not type(other):
        return False
    if isinstance(one, tuple):
        return len(one) == len(other) and all(same(*pair) for pair in zip(one, other))
    return one == other


def alike(one, other):
    """How many events are the same at the heads of both lists."""
    count = 0
    for pair in zip(one, other):
        if not same(*pair):
            break
        count += 1
    return count


def brute(plan, events):
    """What judged is to tell, by a trial of every deed at every turn."""
    model = Model(plan)
    at = alike(model.log, events)
    if at < len(model.log):
        return at
    while at < len(events):
        trials = [trial for trial in every_deed(model, plan, events[at]) if trial]
        found = [(alike(log, events[at:]), log, after) for log, after in trials]
        best, log, after = max(found, key=lambda trial: trial[0], default=(0, [None], None))
        if best < len(log):
            return at + best
        at += best
        model = after
    return None


def every_deed(model, plan, event):
    labels = names_in(plan)
    deeds = [("fail", label) for label in labels] + [("work", label) for label in labels]
    if isinstance(event, tuple) and len(event) == 4:
        deeds += [("send", label, event[3]) for label in labels]
    return [tried(model, deed) for deed in deeds]


def tried(model, deed):
    """The events of the deed and the model behind it, or None where it can't be."""
    after = model.copy()
    before = len(after.log)
    return None if isinstance(done(after, deed), type) else (after.log[before:], after)


def run_of(seed, plan, count):
    """A house behind so many deeds."""
    chances = Chances(seed)
    house = House(plan)
    for _ in range(count):
        done(house, chance_deed(chances, house, plan))
    return house


def small_runs():
    """Plans with the histories of some deeds."""
    plans = [PLAN, SAMPLE, chain(2), chain(6)] + [chance_plan(Chances(seed), 3 + seed % 8) for seed in range(8)]
    return [(plan, run_of(seed, plan, 14).history()) for seed, plan in enumerate(plans)]


def with_another(event):
    """Events that differ from the event in its word, its name, its number or its letter, or in their length."""
    found = [(word,) + event[1:] for word in ("begins", "ends", "sent", "works", "leaves", "fails", "lost", "Fails", 1)]
    found += [event[:1] + (label,) + event[2:] for label in ("top", "a", "n", "in", "b", "w", "zz", "", None, ("a",))]
    if len(event) > 2:
        found += [event[:2] + (event[2] + more,) + event[3:] for more in (-1, 1, 2, 10 ** 9)]
        found += [event[:2] + (thing,) + event[3:] for thing in (0, -1, True, False, str(event[2]), None, [event[2]])]
    if len(event) > 3:
        letters = [("add", 1), ("add", True), ("add", 10 ** 9 + 1), ("fault",), ("leave",), ("fault", 1), "fault", None]
        found += [event[:3] + (letter,) for letter in letters + [list(event[3])]]
    found += [event[:size] for size in range(len(event))]
    found += [event + (thing,) for thing in (None, 1, True, "a", ("fault",))]
    found += [list(event), (event,), [event], {event[0]: event[1]}]
    return found


class Judged(unittest.TestCase):
    def assert_judged(self, plan, events, wanted):
        self.assertEqual(judged(plan, events), wanted, events)
        self.assertIs(type(judged(plan, events)), type(wanted))
        if wanted is None:
            self.assertEqual(house_of(plan, events).history(), events)
        else:
            self.assertIs(answer(house_of, plan, events), BadHistory)

    def test_by_hand(self):
        for text, wanted in (
            ("", 0),
            ("begins a", 0),
            ("begins top", 1),
            ("begins top, begins n", 1),
            (BEGUN, None),
            (BEGUN + "begins top", 6),
            (BEGUN + "ends f", 6),
            (BEGUN + "works a 1", 6),
            (BEGUN + "leaves a", 6),
            (BEGUN + "lost a 1", 6),
            (BEGUN + "sent a 1 add 5", None),
            (BEGUN + "sent a 2 add 5", 6),
            (BEGUN + "sent a 0 add 5", 6),
            (BEGUN + "sent in 1 add 5", 6),
            (BEGUN + "sent z 1 add 5", 6),
            (BEGUN + "sent a 1 add 1000000001", 6),
            (BEGUN + "sent a 1 fail", 6),
            (BEGUN + "sent a 1 add 5, works a 1", None),
            (BEGUN + "sent a 1 add 5, works b 1", 7),
            (BEGUN + "sent a 1 add 5, works a 2", 7),
            (BEGUN + "sent a 1 add 5, works a 1, works a 1", 8),
            (BEGUN + "sent a 1 add 5, sent a 2 fault, works a 2", 8),
            (BEGUN + "sent a 1 add 5, fails a", 8),
            (BEGUN + "fails n", None),
            (BEGUN + "fails n, fails n", 7),
            (BEGUN + "fails n, sent n 1 add 5", 7),
            (BEGUN + "fails n, begins n", 7),
            (BEGUN + "fails b", 7),
            (BEGUN + "fails b, begins b", None),
            (BEGUN + "fails b, begins b, fails b", 9),
            (BEGUN + "fails b, begins b, fails b, fails in", 10),
            (BEGUN + "fails b, begins b, fails b, begins b", 9),
            (BEGUN + "fails b, begins b, fails b, fails in, ends f, begins in, begins b, begins f", None),
            (BEGUN + "fails b, begins b, fails b, fails in, begins in, begins b, begins f", 10),
            (BEGUN + "fails f, begins f, fails n, sent a 1 add 1, works a 1, fails f, begins f", None),
            (BEGUN + "fails top, ends f, ends b, ends in, ends n, ends a", None),
            (BEGUN + "fails top, ends f, ends b, ends in, ends n", 11),
            (BEGUN + "fails top, ends f, ends b, ends in, ends n, ends a, fails a", 12),
            (BEGUN + "fails top, ends f, ends b, ends in, ends n, ends a, sent a 1 fault", 12),
            (BEGUN + "sent f 1 leave, works f 1, leaves f", None),
            (BEGUN + "sent f 1 leave, works f 1", 8),
            (BEGUN + "sent f 1 leave, works f 1, fails f", 8),
            (BEGUN + "sent f 1 leave, sent f 2 fault, works f 1, leaves f", 10),
            (BEGUN + "sent f 1 leave, sent f 2 fault, works f 1, leaves f, lost f 2", None),
            (BEGUN + "sent f 1 leave, sent f 2 fault, works f 1, leaves f, lost f 1", 10),
            (BEGUN + "sent f 1 leave, sent f 2 fault, works f 1, leaves f, fails n", 10),
        ):
            self.assert_judged(PLAN, rows(text), wanted)
        self.assertIsNone(judged(plan=PLAN, events=rows(BEGUN)))
        self.assertEqual(house_of(plan=PLAN, events=rows(BEGUN)).hour(), 0)

    def test_histories_are_right(self):
        for plan, events in small_runs():
            self.assert_judged(plan, events, None)
        for seed, plan in enumerate((side_by_side(60), chain(6), SAMPLE, PLAN)):
            for count in (0, 1, 200):
                self.assert_judged(plan, run_of(seed, plan, count).history(), None)
        for seed in range(60):
            plan = chance_plan(Chances(seed), 30)
            self.assert_judged(plan, run_of(seed, plan, 80).history(), None)

    def test_a_history_cut_at_every_place(self):
        for seed in range(40):
            plan = PLAN if seed == 0 else chance_plan(Chances(seed), 12)
            chances = Chances(seed)
            house = House(plan)
            ends = [len(house.history())]
            for _ in range(30):
                done(house, chance_deed(chances, house, plan))
                ends.append(len(house.history()))
            events = house.history()
            for size in range(len(events) + 1):
                self.assert_judged(plan, events[:size], None if size in ends else size)

    def test_one_event_left_out_or_twice_or_exchanged(self):
        for plan, events in small_runs():
            for at in range(len(events)):
                rest = events[at + 1:]
                for other in (
                    events[:at] + rest,
                    events[:at] + [events[at], events[at]] + rest,
                    events[:at] + rest[:1] + [events[at]] + rest[1:],
                    events[:at] + [events[0]] + rest,
                    events[:at] + [events[-1]] + rest,
                ):
                    self.assert_judged(plan, other, brute(plan, other))

    def test_one_event_of_another_name_or_number(self):
        for plan, events in small_runs()[:5]:
            for at in range(0, len(events), 2):
                for thing in with_another(events[at]):
                    other = events[:at] + [thing] + events[at + 1:]
                    self.assert_judged(plan, other, brute(plan, other))

    def test_any_other_thing_in_an_events_place(self):
        events = run_of(3, PLAN, 14).history()
        things = strange_things() + [0, 1, 5, "begins", "begins top", "begins top\n", ["begins", "top"], PLAN]
        things += [("begins",), ("sent",), ("works",), ("fails",), ("sent", "a"), ("works", "a"), ("sent", "a", 1)]
        for thing in things + deep_things():
            for at in range(len(events) + 1):
                self.assertEqual(judged(PLAN, events[:at] + [thing]), at)
                self.assertEqual(judged(PLAN, events[:at] + [thing] + events[at:]), at)
                self.assertEqual(judged(PLAN, events[:at] + [thing] + events[at + 1:]), at)
            self.assertIs(answer(house_of, PLAN, events + [thing]), BadHistory)
            self.assertIs(answer(house_of, PLAN, [thing]), BadHistory)

    def test_any_other_thing_within_an_event(self):
        right = [("sent", "a", 1, ("add", 1)), ("works", "a", 1), ("fails", "a"), ("sent", "a", 1, ("fault",))]
        events = rows(BEGUN)
        for event in right:
            for at in range(len(event)):
                for thing in strange_things() + deep_things():
                    other = event[:at] + (thing,) + event[at + 1:]
                    self.assertEqual(judged(PLAN, events + [other]), 6)
                    self.assertIs(answer(house_of, PLAN, events + [other]), BadHistory)

    def test_truths_are_no_numbers(self):
        events = rows(BEGUN)
        self.assertEqual(judged(PLAN, events + [("sent", "n", True, ("fault",))]), 6)
        self.assertEqual(judged(PLAN, events + [("sent", "n", 1, ("add", True))]), 6)
        self.assertEqual(judged(PLAN, events + [("sent", "n", 1, ("add", False))]), 6)
        events.append(("sent", "n", 1, ("fault",)))
        self.assertEqual(judged(PLAN, events + [("works", "n", True)]), 7)
        self.assertEqual(judged(PLAN, events + [("fails", "n"), ("lost", "n", True)]), 8)
        self.assertIsNone(judged(PLAN, events + [("fails", "n"), ("lost", "n", 1)]))

    def test_the_history_of_a_house_of_another_plan(self):
        other = warden("top", worker("a"), worker("n", "never"), warden("in", worker("b"), worker("f")), many=9)
        events = rows(BEGUN + "fails a, begins a")
        self.assertIsNone(judged(other, events))
        self.assertEqual(judged(PLAN, events), 7)
        self.assertEqual(judged(chain(1), events), 0)

    def test_bad_plan_ahead_of_all(self):
        events = rows(BEGUN)
        for thing in strange_things() + deep_things() + [0, "top", list(PLAN), worker("a"), chain(7), side_by_side(61)]:
            for given in (events, [], [None], [thing], events + [[]]):
                for question in (judged, house_of):
                    self.assertIs(answer(question, thing, given), BadPlan)


class HouseOf(unittest.TestCase):
    def test_goes_on_just_as_the_first_one(self):
        for seed in range(40):
            plan = PLAN if seed % 4 == 0 else chance_plan(Chances(seed), 15)
            chances = Chances(seed)
            first = House(plan)
            for _ in range(12):
                second = house_of(plan, first.history())
                self.assertIs(type(second), House)
                self.assertEqual(asked(second, plan), asked(first, plan))
                for _ in range(5):
                    deed = chance_deed(chances, first, plan)
                    self.assertEqual(done(second, deed), done(first, deed))
                    self.assertEqual(asked(second, plan), asked(first, plan))

    def test_of_a_closed_house(self):
        house = run_of(1, PLAN, 20)
        answer(house.fail, "top")
        second = house_of(PLAN, house.history())
        self.assertIs(second.is_open(), False)
        self.assertEqual(asked(second, PLAN), asked(house, PLAN))

    def test_two_of_one_list_know_nothing_of_each_other(self):
        events = rows(BEGUN + "sent a 1 add 5, sent b 2 fault, works a 1")
        one = house_of(PLAN, events)
        other = house_of(PLAN, events)
        before = asked(other, PLAN)
        one.work("b")
        one.fail("n")
        one.send("a", ("leave",))
        self.assertEqual(asked(other, PLAN), before)
        self.assertEqual(events, rows(BEGUN + "sent a 1 add 5, sent b 2 fault, works a 1"))


class HandedIn(unittest.TestCase):
    def test_the_same_list_asked_twice(self):
        for plan, events in small_runs():
            for given in (events, events[:-1], events + [None], events[1:], [[]] + events, events + [["fails", {}]]):
                before = copy.deepcopy(given)
                first = judged(plan, given)
                self.assertEqual(judged(plan, given), first)
                answer(house_of, plan, given)
                self.assertEqual(judged(plan, given), first)
                self.assertEqual(repr(given), repr(before))

    def test_the_list_may_be_changed_afterwards(self):
        events = run_of(5, PLAN, 14).history()
        house = house_of(PLAN, events)
        before = asked(house, PLAN)
        copied = list(events)
        events.append(("fails", "a"))
        events[0] = None
        self.assertEqual(asked(house, PLAN), before)
        events.clear()
        self.assertEqual(asked(house, PLAN), before)
        self.assertEqual(house.history(), copied)
        house.history().clear()
        self.assertEqual(house.history(), copied)

    def test_deeds_do_not_change_the_list(self):
        events = rows(BEGUN + "sent a 1 add 5")
        house = house_of(PLAN, events)
        house.work("a")
        house.fail("top")
        self.assertEqual(events, rows(BEGUN + "sent a 1 add 5"))


class Long(unittest.TestCase):
    def test_many_deeds(self):
        plan = side_by_side(60)
        house = House(plan)
        for turn in range(3000):
            label = workers_in(plan)[turn % 51]
            house.send(label, ("add", turn))
            house.work(label)
        events = house.history()
        self.assertEqual(len(events), 6060)
        self.assertIsNone(judged(plan, events))
        self.assertEqual(judged(plan, events + [events[-1]]), 6060)
        self.assertEqual(judged(plan, events[:3000] + events[3002:]), 3000)


if __name__ == "__main__":
    unittest.main()
