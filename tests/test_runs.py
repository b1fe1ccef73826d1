"""Many deeds, as if by chance: what holds whatever is done [10], and the same told once more by the model."""

import unittest

from tests.model import Model
from tests.things import (
    Chances, SAMPLE, answer, asked, chain, chance_deed, chance_plan, done, names_in, side_by_side, workers_in,
)
from wardhouse.errors import Closed
from wardhouse.houses import House


def plans():
    """Numbers, each with a plan, some of them deep and wide."""
    given = [SAMPLE, chain(1), chain(6), side_by_side(9), side_by_side(40), side_by_side(60)]
    return list(enumerate(given + [chance_plan(Chances(seed), 3 + seed % 40) for seed in range(120)]))


def wardens_in(plan):
    """Each warden with the name of the one above it."""
    found = {}
    for inner in plan[5]:
        if inner[0] == "warden":
            found[inner[1]] = inner
            found.update(wardens_in(inner))
    found[plan[1]] = plan
    return found


class Runs(unittest.TestCase):
    def test_the_model_tells_the_same(self):
        for seed, plan in plans():
            chances = Chances(seed)
            house = House(plan)
            model = Model(plan)
            for _ in range(60):
                deed = chance_deed(chances, house, plan)
                self.assertEqual(done(house, deed), done(model, deed), (seed, deed))
                self.assertEqual(asked(house, plan), asked(model, plan), (seed, deed))
                if not house.is_open():
                    self.assertIs(answer(house.fail, plan[1]), Closed)
                    break

    def test_what_a_deed_tells_is_what_the_history_grows_by(self):
        for seed, plan in plans():
            chances = Chances(seed)
            house = House(plan)
            told = house.history()
            hour = 0
            for _ in range(60):
                deed = chance_deed(chances, house, plan)
                found = done(house, deed)
                if isinstance(found, int):
                    told.append(("sent", deed[1], found, deed[2]))
                elif isinstance(found, list):
                    told.extend(found)
                    hour += 1
                self.assertEqual((house.history(), house.hour()), (told, hour))

    def test_each_letter_has_one_fate_and_its_turn(self):
        for seed, plan in plans():
            house = run_of(seed, plan)
            fates = {}
            for event in house.history():
                if event[0] == "sent":
                    fates[event[2]] = [event[1]]
                elif event[0] in ("works", "lost"):
                    fates[event[2]].append((event[0], event[1]))
            for label in workers_in(plan):
                for number in house.waits(label):
                    fates[number].append(("waits", label))
            self.assertEqual(list(fates), list(range(1, len(fates) + 1)))
            for number, (label, *rest) in fates.items():
                self.assertEqual([fate[1] for fate in rest], [label], (seed, number))
            for label in workers_in(plan):
                for word in ("works", "lost"):
                    numbers = [event[2] for event in house.history() if event[:2] == (word, label)]
                    self.assertEqual(numbers, sorted(numbers))

    def test_nobody_works_while_not_here_nor_is_here_without_a_warden(self):
        for seed, plan in plans():
            above = {inner[1]: label for label, part in wardens_in(plan).items() for inner in part[5]}
            here = set()
            for event in run_of(seed, plan).history():
                word, label = event[:2]
                if word == "begins":
                    self.assertNotIn(label, here)
                    self.assertTrue(label == plan[1] or above[label] in here)
                    here.add(label)
                elif word == "lost":
                    self.assertNotIn(label, here)
                else:
                    self.assertIn(label, here)
                if word in ("ends", "fails", "leaves"):
                    here.remove(label)

    def test_no_warden_has_more_hours_that_count_than_many(self):
        for seed, plan in plans():
            chances = Chances(seed + 1000)
            house = House(plan)
            wardens = wardens_in(plan)
            for _ in range(60):
                done(house, chance_deed(chances, house, plan))
                for label in house.here():
                    if label in wardens:
                        found = house.hours(label)
                        self.assertLessEqual(len(found), wardens[label][3])
                        self.assertEqual(found, sorted(set(found)))
                        self.assertTrue(all(house.hour() - hour < wardens[label][4] for hour in found))
                    self.assertTrue(label == plan[1] or house.is_open())

    def test_the_runs_reach_much(self):
        words = {}
        lengths = []
        for seed, plan in plans():
            house = run_of(seed, plan)
            lengths.append(len(house.history()) - len(names_in(plan)))
            for event in house.history():
                words[event[0]] = words.get(event[0], 0) + 1
        self.assertEqual(sorted(words), ["begins", "ends", "fails", "leaves", "lost", "sent", "works"])
        self.assertTrue(all(count > 200 for count in words.values()), words)
        self.assertGreater(sum(lengths), 5000)


class Long(unittest.TestCase):
    def test_many_deeds(self):
        plan = side_by_side(60)
        house = House(plan)
        workers = workers_in(plan)
        for turn in range(3000):
            label = workers[turn % len(workers)]
            house.send(label, ("add", turn))
            house.send(label, ("fault",) if turn % 90 == 0 else ("add", -turn))
            house.work(label)
            house.work(label)
        self.assertEqual(house.hour(), 6000)
        self.assertIs(house.is_open(), True)
        self.assertEqual({house.sum_of(label) for label in workers}, {0})


def run_of(seed, plan):
    chances = Chances(seed)
    house = House(plan)
    for _ in range(90):
        done(house, chance_deed(chances, house, plan))
    return house


if __name__ == "__main__":
    unittest.main()
