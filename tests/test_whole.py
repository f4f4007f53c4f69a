"""Point 4 over the whole program."""

import unittest

import oracle
from missclock.clerks import behind, misses, walk
from missclock.depths import depths
from missclock.desk import Desk
from missclock.far import behind_far, depth_at, depth_at_last, misses_ahead, missed_far, stands
from missclock.graces import least_graces
from missclock.judge_reminders import holds, shows_wanted
from missclock.ladder import Ladder
from missclock.live import Clerk, clerk_of
from missclock.loops import all_depths, all_steady, greatest_steady, steady_from, steady_standing
from missclock.reminders import fewest, lazy, wanted
from missclock.texts import read_history, read_row, show_history, show_row

MOST = 10 ** 30


def some_cases(seed, many=150):
    chance = oracle.chance_of(seed)
    for _ in range(many):
        asks = oracle.some_asks(chance, chance.randint(1, 25), "abcdef")
        yield chance, asks, oracle.some_graces(chance, "abcdef")


class TestWhole(unittest.TestCase):
    def test_one_with_more_drawers_holds_all(self):
        for _, asks, graces in some_cases(1):
            held = []
            for drawers in range(1, 12):
                now = dict(behind(asks, drawers, graces=graces))
                for thing in held:
                    self.assertIn(thing, now)
                held = list(now)

    def test_a_depth_is_the_greatest_number_of_drawers_that_misses(self):
        for _, asks, graces in some_cases(2):
            self.assertEqual(depths(asks, graces=graces), oracle.depths_by_clerks(asks, graces, 40))

    def test_one_ask_changes_no_depth_by_more_than_one(self):
        for chance, asks, graces in some_cases(3):
            place = chance.randrange(len(asks) + 1)
            thing = chance.choice("abcdefg")
            more = depths(asks[:place] + [thing] + asks[place:], graces=graces)
            told = depths(asks, graces=graces)
            own = [at for at in range(place, len(asks)) if asks[at] == thing][:1]
            for at, depth in enumerate(told):
                other = more[at if at < place else at + 1]
                if at < place:
                    self.assertEqual(other, depth)
                elif at not in own and depth is None:
                    self.assertIsNone(other)
                elif at not in own:
                    self.assertLessEqual(abs(other - depth), 1)

    def test_who_is_younger_in_everything_stays_so(self):
        for chance, asks, graces in some_cases(4):
            drawers = chance.randint(1, 5)
            one = oracle.some_standing(chance, drawers, graces, "abcdef")
            other = [(thing, age) for thing, age in one if chance.random() < 0.7]
            other = [(thing, age) for thing, age in other
                     if age + 1 < drawers + graces.get(thing, 0)]
            other = [(thing, age + 1) for thing, age in other]
            for thing in asks:
                hit = walk([thing], drawers, graces=graces, standing=one)[0]
                late = walk([thing], drawers, graces=graces, standing=other)[0]
                self.assertTrue(hit or not late)
                one = behind([thing], drawers, graces=graces, standing=one)
                other = behind([thing], drawers, graces=graces, standing=other)
                for held, age in other:
                    self.assertLessEqual(dict(one)[held], age)

    def test_a_grace_helps_all_others_too(self):
        for chance, asks, graces in some_cases(5):
            more = dict(graces)
            thing = chance.choice("abcdef")
            more[thing] = more.get(thing, 0) + chance.randint(1, 4)
            for old, new in zip(depths(asks, graces=graces), depths(asks, graces=more)):
                if old is None:
                    self.assertIsNone(new)
                else:
                    self.assertLessEqual(new, old)

    def test_a_round_comes_to_stand(self):
        for _, asks, graces in some_cases(6, 60):
            for drawers in (1, 2, 3):
                now = []
                told = []
                for _ in range(30):
                    told.append(walk(asks, drawers, graces=graces, standing=now))
                    now = behind(asks, drawers, graces=graces, standing=now)
                self.assertEqual(told[-1], told[-2])

    def test_from_any_start_each_misses_where_the_one_ahead_did(self):
        for chance, asks, graces in some_cases(7, 100):
            drawers = chance.randint(1, 5)
            now = oracle.some_standing(chance, drawers, graces, "abcdefgh")
            told = []
            for _ in range(30):
                told.append(walk(asks, drawers, graces=graces, standing=now))
                now = behind(asks, drawers, graces=graces, standing=now)
            stood = min(turn for turn in range(30) if all(one == told[-1] for one in told[turn:]))
            self.assertLess(stood, 20)
            if not graces:
                places = [at for at, hit in enumerate(told[-1]) if not hit]
                self.assertEqual(steady_from(asks, drawers, standing=[])[1], greatest_steady(asks, drawers))
                self.assertLessEqual(set(places), set(greatest_steady(asks, drawers)))

    def test_of_each_two_sets_at_which_a_round_can_stand_the_lesser_lies_within(self):
        for chance, asks, _ in some_cases(8, 100):
            asks = asks[:10]
            drawers = chance.randint(1, 5)
            told = all_steady(asks, drawers)
            for one, other in zip(told, told[1:]):
                self.assertLess(set(one), set(other))
            for places in told:
                start = steady_standing(asks, drawers, places)
                self.assertEqual(misses(asks, drawers, standing=start), len(places))
                self.assertEqual(behind_far([(asks, MOST)], drawers, standing=start), (start, len(places) * MOST))
            # From nothing it stands at the greatest.
            self.assertEqual(stands(asks, drawers)[1], len(told[-1]))

    def test_what_it_stands_at_is_told_for_very_many_rounds_and_all_numbers_of_drawers(self):
        for _, asks, _ in some_cases(9, 60):
            far = [(asks, MOST)]
            last = [depth_at_last(asks, place) for place in range(len(asks))]
            for drawers in range(1, 8):
                rounds, many = stands(asks, drawers)
                self.assertEqual(many, len([depth for depth in last if depth >= drawers]))
                due = misses_ahead(far, drawers, rounds * len(asks)) + many * (MOST - rounds)
                self.assertEqual(behind_far(far, drawers)[1], due)
            for place in range(len(asks)):
                self.assertEqual(depth_at(far, (MOST - 1) * len(asks) + place), last[place])
            if len(asks) <= 8:
                self.assertEqual([max(column) for column in zip(*all_depths(asks))], last)

    def test_fewest_reminders_and_least_graces_are_told_with_papers(self):
        for chance, asks, graces in some_cases(10, 100):
            drawers = chance.randint(2, 4)
            wished = sorted(set(asks))[:2]
            many = fewest(asks, drawers, wished, graces=graces)
            plan, paper = lazy(asks, drawers, wished, graces=graces), wanted(asks, drawers, wished, graces=graces)
            if many is not None:
                self.assertEqual((len(plan), len(paper)), (many, many))
                self.assertIs(holds(asks, drawers, wished, plan, graces=graces), True)
                self.assertEqual(shows_wanted(asks, drawers, wished, paper, graces=graces), many)
            # The least graces that keep what is wished want no reminder.
            kind = dict(graces)
            kind.update(least_graces(asks, drawers, wished, graces=graces))
            self.assertIs(holds(asks, drawers, wished, [], graces=kind), True)

    def test_all_that_hear_tell_alike(self):
        """A clerk, a ladder, a desk, a far row and its depths: each tells the same."""
        for _, asks, _ in some_cases(11, 60):
            ladder, desk = Ladder(), Desk()
            self.assertEqual([ladder.ask(thing) for thing in asks], depths(asks))
            self.assertEqual(ladder.steps(), missed_far(asks))
            for drawers in (1, 2, 3, 5):
                desk.say(f"clerk {'abcdef'[drawers]} {drawers}")
            answer = desk.say("hear " + show_row(asks))
            told = dict(piece.split(":") for piece in answer.split(" "))
            for drawers in (1, 2, 3, 5):
                clerk = Clerk(drawers)
                missed = clerk.ask_row(read_row(show_row(asks)))
                self.assertEqual(missed, ladder.missed(drawers))
                self.assertEqual(missed, int(told["abcdef"[drawers]]))
                self.assertEqual(clerk.standing(), ladder.standing(drawers))
                self.assertEqual(clerk_of(drawers, read_history(show_history(clerk.history()))), clerk)


if __name__ == "__main__":
    unittest.main()
