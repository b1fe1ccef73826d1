"""What follows where a part fails: the hours that its warden keeps, and who ends and begins anew [8]."""

import unittest

from tests.things import rows, warden, worker
from wardhouse.houses import House

FAR = 10 ** 9


def five(rule):
    """Five parts: workers of each again around a warden."""
    return warden(
        "top",
        worker("a", "always"), worker("n", "never"),
        warden("in", worker("x", "never"), worker("y"), many=FAR, span=FAR),
        worker("m", "never"), worker("f", "faulted"),
        rule=rule, many=FAR, span=FAR,
    )


def without(house, *labels):
    """The house, with workers that left or failed for good."""
    for label in labels:
        if label in ("n", "m", "x"):
            house.fail(label)
        else:
            house.send(label, ("leave",))
            house.work(label)
    return house


class Rules(unittest.TestCase):
    def test_one(self):
        for label in ("a", "f"):
            self.assertEqual(House(five("one")).fail(label), rows(f"fails {label}, begins {label}"))
        wanted = "fails in, ends y, ends x, begins in, begins x, begins y"
        self.assertEqual(House(five("one")).fail("in"), rows(wanted))

    def test_rest_where_the_first_fails(self):
        wanted = "fails a, ends f, ends m, ends y, ends x, ends in, ends n, "
        wanted += "begins a, begins in, begins x, begins y, begins f"
        self.assertEqual(House(five("rest")).fail("a"), rows(wanted))

    def test_rest_where_a_middle_one_fails(self):
        wanted = "fails in, ends y, ends x, ends f, ends m, begins in, begins x, begins y, begins f"
        self.assertEqual(House(five("rest")).fail("in"), rows(wanted))

    def test_rest_where_the_last_fails(self):
        self.assertEqual(House(five("rest")).fail("f"), rows("fails f, begins f"))

    def test_all_where_the_first_fails(self):
        wanted = "fails a, ends f, ends m, ends y, ends x, ends in, ends n, "
        wanted += "begins a, begins in, begins x, begins y, begins f"
        self.assertEqual(House(five("all")).fail("a"), rows(wanted))

    def test_all_where_a_middle_one_fails(self):
        wanted = "fails in, ends y, ends x, ends f, ends m, ends n, ends a, "
        wanted += "begins a, begins in, begins x, begins y, begins f"
        self.assertEqual(House(five("all")).fail("in"), rows(wanted))

    def test_all_where_the_last_fails(self):
        wanted = "fails f, ends m, ends y, ends x, ends in, ends n, ends a, "
        wanted += "begins a, begins in, begins x, begins y, begins f"
        self.assertEqual(House(five("all")).fail("f"), rows(wanted))

    def test_one_that_is_never_begun_again(self):
        for rule in ("one", "rest", "all"):
            for label in ("n", "m", "x"):
                house = House(five(rule))
                self.assertEqual(house.fail(label), [("fails", label)])
                self.assertEqual((house.hours("top"), house.hours("in")), ([], []))

    def test_parts_that_are_not_here_neither_end_nor_begin(self):
        house = without(House(five("all")), "n", "f", "x")
        self.assertEqual(house.here(), ["top", "a", "in", "y", "m"])
        wanted = "fails a, ends m, ends y, ends in, begins a, begins in, begins x, begins y"
        self.assertEqual(house.fail("a"), rows(wanted))
        self.assertEqual(house.here(), ["top", "a", "in", "x", "y"])
        wanted = "fails a, ends y, ends x, ends in, begins a, begins in, begins x, begins y"
        self.assertEqual(house.fail("a"), rows(wanted))

    def test_the_rest_without_some(self):
        house = without(House(five("rest")), "f")
        self.assertEqual(house.fail("in"), rows("fails in, ends y, ends x, ends m, begins in, begins x, begins y"))
        house = without(House(five("rest")), "m", "n")
        wanted = "fails in, ends y, ends x, ends f, begins in, begins x, begins y, begins f"
        self.assertEqual(house.fail("in"), rows(wanted))
        self.assertEqual(house.here(), ["top", "a", "in", "x", "y", "f"])

    def test_one_behind_another_of_the_rest_stays(self):
        house = House(warden("top", worker("a"), worker("b"), worker("c"), rule="rest", many=9))
        self.assertEqual(house.fail("a"), rows("fails a, ends c, ends b, begins a, begins b, begins c"))
        self.assertEqual(house.fail("b"), rows("fails b, ends c, begins b, begins c"))
        self.assertEqual(house.fail("c"), rows("fails c, begins c"))

    def test_only_the_parts_of_its_own_warden_are_named(self):
        inner = warden("in", worker("b"), worker("c"), rule="all", many=5)
        plan = warden("top", worker("a"), inner, worker("d"), many=5)
        self.assertEqual(House(plan).fail("b"), rows("fails b, ends c, begins b, begins c"))
        self.assertEqual(House(plan).fail("d"), rows("fails d, begins d"))

    def test_eight_parts(self):
        labels = list("abcdefgh")
        for rule in ("one", "rest", "all"):
            for at, label in enumerate(labels):
                plan = warden("top", *[worker(inner, "faulted") for inner in labels], rule=rule)
                chosen = {"one": labels[at:at + 1], "rest": labels[at:], "all": labels}[rule]
                ends = [("ends", inner) for inner in reversed(chosen) if inner != label]
                begins = [("begins", inner) for inner in chosen]
                self.assertEqual(House(plan).fail(label), [("fails", label)] + ends + begins)


class BeganAnew(unittest.TestCase):
    def test_sums_are_0_and_no_hours_are_kept(self):
        house = House(five("all"))
        for label in ("a", "n", "x", "y", "m", "f"):
            house.send(label, ("add", 7))
            house.work(label)
            self.assertEqual(house.sum_of(label), 7)
        house.fail("y")
        self.assertEqual(house.hours("in"), [7])
        house.fail("f")
        self.assertEqual(house.hours("in"), [])
        self.assertEqual(house.hours("top"), [8])
        for label in ("a", "x", "y", "f"):
            self.assertEqual(house.sum_of(label), 0)

    def test_those_that_were_not_named_go_on_as_they_were(self):
        house = House(five("rest"))
        for label in ("a", "n", "y", "f"):
            house.send(label, ("add", 7))
            house.work(label)
        house.fail("in")
        self.assertEqual([house.sum_of(label) for label in ("a", "n", "x", "y", "f")], [7, 7, 0, 0, 0])

    def test_beneath_a_warden_that_begins_anew(self):
        plan = warden("top", warden("mid", warden("low", worker("a"), many=9), worker("b"), many=9), many=9, span=100)
        house = House(plan)
        house.fail("a")
        house.fail("b")
        house.fail("low")
        house.fail("a")
        house.send("b", ("add", 3))
        house.work("b")
        self.assertEqual([house.hours(label) for label in ("top", "mid", "low")], [[], [2, 3], [4]])
        house.fail("mid")
        self.assertEqual([house.hours(label) for label in ("top", "mid", "low")], [[6], [], []])
        self.assertEqual((house.sum_of("a"), house.sum_of("b")), (0, 0))
        house.fail("a")
        self.assertEqual([house.hours(label) for label in ("top", "mid", "low")], [[6], [], [7]])

    def test_a_warden_begun_anew_may_have_as_many_again(self):
        plan = warden("top", warden("in", worker("a"), many=1, span=FAR), many=FAR, span=FAR)
        house = House(plan)
        for _ in range(4):
            self.assertEqual(house.fail("a"), rows("fails a, begins a"))
            self.assertEqual(house.fail("a"), rows("fails a, fails in, begins in, begins a"))
        self.assertEqual(house.hours("top"), [2, 4, 6, 8])


class TooMany(unittest.TestCase):
    def test_many_and_one_beyond_it(self):
        for many in (0, 1, 2, 3, 7):
            house = House(warden("top", worker("a"), worker("b"), many=many, span=FAR))
            for hour in range(1, many + 1):
                self.assertEqual(house.fail("a"), rows("fails a, begins a"))
                self.assertEqual(house.hours("top"), list(range(1, hour + 1)))
            self.assertEqual(house.fail("a"), rows("fails a, fails top, ends b"))
            self.assertEqual((house.is_open(), house.here(), house.hour()), (False, [], many + 1))

    def test_the_faults_of_several_parts_count_together(self):
        house = House(warden("top", worker("a"), worker("b"), warden("in", worker("c"), many=9), many=2, span=FAR))
        house.fail("a")
        house.fail("b")
        self.assertEqual(house.fail("c"), rows("fails c, begins c"))
        self.assertEqual(house.fail("in"), rows("fails in, ends c, fails top, ends b, ends a"))

    def test_the_hour_at_now_less_span_does_not_count(self):
        for span in (1, 2, 3, 8):
            for apart in range(1, 12):
                house = House(warden("top", worker("a"), worker("idle"), worker("c"), many=1, span=span))
                house.fail("a")
                for _ in range(apart - 1):
                    house.send("idle", ("add", 1))
                    house.work("idle")
                # The second fault comes so many hours behind the first one; that one counts while they're below span.
                wanted = "fails c, fails top, ends idle, ends a" if apart < span else "fails c, begins c"
                self.assertEqual(house.fail("c"), rows(wanted), (span, apart))

    def test_hours_that_count_pass_with_work_alone(self):
        house = House(warden("top", worker("a"), worker("idle"), many=9, span=3))
        house.fail("a")
        house.fail("a")
        found = [house.hours("top")]
        for _ in range(3):
            house.send("idle", ("add", 1))
            found.append(house.hours("top"))
            house.work("idle")
            found.append(house.hours("top"))
        self.assertEqual(found, [[1, 2], [1, 2], [1, 2], [1, 2], [2], [2], []])

    def test_many_0(self):
        plan = warden("top", warden("mid", warden("low", worker("a"), many=0), many=0), worker("b"), many=0)
        house = House(plan)
        self.assertEqual(house.fail("a"), rows("fails a, fails low, fails mid, fails top, ends b"))
        self.assertEqual((house.is_open(), house.hour()), (False, 1))

    def test_a_worker_never_again_beneath_many_0(self):
        house = House(warden("top", worker("a", "never"), worker("b"), many=0))
        self.assertEqual(house.fail("a"), rows("fails a"))
        house.send("b", ("leave",))
        self.assertEqual(house.work("b"), rows("works b 1, leaves b, fails top"))

    def test_a_fault_that_goes_up_some_wardens_and_stays_there(self):
        inner = warden("low", worker("a"), worker("n", "never"), many=0, rule="all")
        plan = warden(
            "top", worker("z"), warden("mid", worker("y"), inner, worker("x"), many=0, rule="all"),
            worker("w", "never"), many=1, rule="rest")
        house = House(plan)
        house.send("y", ("add", 1))
        house.send("w", ("add", 1))
        wanted = "fails a, fails low, ends n, fails mid, ends x, ends y, ends w, "
        wanted += "begins mid, begins y, begins low, begins a, begins n, begins x, lost w 2"
        self.assertEqual(house.fail("a"), rows(wanted))
        self.assertEqual((house.hour(), house.hours("top"), house.hours("mid"), house.hours("low")), (1, [1], [], []))
        self.assertEqual(house.waits("y"), [1])

    def test_through_all_six(self):
        for many_above in range(6):
            plan = worker("w")
            for depth in range(6):
                plan = warden("abcdef"[depth], plan, many=0 if depth < many_above else 1, span=FAR)
            house = House(plan)
            failing = "wabcdef"[:many_above + 1]
            wanted = [("fails", label) for label in failing] + [("begins", label) for label in reversed(failing)]
            self.assertEqual(house.fail("w"), wanted)
            self.assertEqual([house.hours(label) for label in "abcdef"].count([1]), 1)
            self.assertEqual(house.hours("abcdef"[many_above]), [1])

    def test_twos_of_twos(self):
        plan = worker("w")
        for label in "abcdef":
            plan = warden(label, plan, many=1, span=FAR)
        house = House(plan)
        found = [house.fail("w") for _ in range(2 ** 6)]
        # Each of the six bears one fault, and fails itself with the second one.
        self.assertEqual(found[2 ** 6 - 1], [("fails", label) for label in "wabcdef"])
        self.assertEqual([deed[-1] for deed in found[:-1]], [("begins", "w")] * (2 ** 6 - 1))
        self.assertIs(house.is_open(), False)

    def test_letters_go_on_waiting_until_the_house_closes(self):
        house = House(warden("top", warden("in", worker("a"), many=0), many=1, span=FAR))
        for letter in (("add", 4), ("fault",), ("add", 5), ("leave",), ("add", 6), ("fault",)):
            house.send("a", letter)
        found = []
        while house.is_open():
            found += house.work("a")
        wanted = "works a 1, works a 2, fails a, fails in, begins in, begins a, "
        wanted += "works a 3, works a 4, leaves a, fails in, fails top, lost a 5, lost a 6"
        self.assertEqual(found, rows(wanted))


if __name__ == "__main__":
    unittest.main()
