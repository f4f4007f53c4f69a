"""Point 4, as far as rows, one clerk and depths reach."""

import unittest

import oracle
from missclock.clerks import behind, walk
from missclock.depths import depths


def some_cases(seed, many=150):
    chance = oracle.chance_of(seed)
    for _ in range(many):
        asks = oracle.some_asks(chance, chance.randint(1, 25), "abcdef")
        yield chance, asks, oracle.some_graces(chance, "abcdef")


class TestWhole(unittest.TestCase):
    def test_one_with_more_drawers_holds_all(self):
        for _, asks, graces in some_cases(1):
            held = []
            for drawers in range(1, 12):
                now = dict(behind(asks, drawers, graces=graces))
                for thing in held:
                    self.assertIn(thing, now)
                held = list(now)

    def test_a_depth_is_the_greatest_number_of_drawers_that_misses(self):
        for _, asks, graces in some_cases(2):
            self.assertEqual(depths(asks, graces=graces), oracle.depths_by_clerks(asks, graces, 40))

    def test_one_ask_changes_no_depth_by_more_than_one(self):
        for chance, asks, graces in some_cases(3):
            place = chance.randrange(len(asks) + 1)
            thing = chance.choice("abcdefg")
            more = depths(asks[:place] + [thing] + asks[place:], graces=graces)
            told = depths(asks, graces=graces)
            own = [at for at in range(place, len(asks)) if asks[at] == thing][:1]
            for at, depth in enumerate(told):
                other = more[at if at < place else at + 1]
                if at < place:
                    self.assertEqual(other, depth)
                elif at not in own and depth is None:
                    self.assertIsNone(other)
                elif at not in own:
                    self.assertLessEqual(abs(other - depth), 1)

    def test_who_is_younger_in_everything_stays_so(self):
        for chance, asks, graces in some_cases(4):
            drawers = chance.randint(1, 5)
            one = oracle.some_standing(chance, drawers, graces, "abcdef")
            other = [(thing, age) for thing, age in one if chance.random() < 0.7]
            other = [(thing, age) for thing, age in other
                     if age + 1 < drawers + graces.get(thing, 0)]
            other = [(thing, age + 1) for thing, age in other]
            for thing in asks:
                hit = walk([thing], drawers, graces=graces, standing=one)[0]
                late = walk([thing], drawers, graces=graces, standing=other)[0]
                self.assertTrue(hit or not late)
                one = behind([thing], drawers, graces=graces, standing=one)
                other = behind([thing], drawers, graces=graces, standing=other)
                for held, age in other:
                    self.assertLessEqual(dict(one)[held], age)

    def test_a_grace_helps_all_others_too(self):
        for chance, asks, graces in some_cases(5):
            more = dict(graces)
            thing = chance.choice("abcdef")
            more[thing] = more.get(thing, 0) + chance.randint(1, 4)
            for old, new in zip(depths(asks, graces=graces), depths(asks, graces=more)):
                if old is None:
                    self.assertIsNone(new)
                else:
                    self.assertLessEqual(new, old)

    def test_a_round_comes_to_stand(self):
        for _, asks, graces in some_cases(6, 60):
            for drawers in (1, 2, 3):
                now = []
                told = []
                for _ in range(30):
                    told.append(walk(asks, drawers, graces=graces, standing=now))
                    now = behind(asks, drawers, graces=graces, standing=now)
                self.assertEqual(told[-1], told[-2])


if __name__ == "__main__":
    unittest.main()
