import unittest

from oncebooked.entries import Bank
from oncebooked.errors import Early, TooEarly
from oncebooked.night import Run
from tests import nights
from tests.test_desk import drawn_call, stand_of


class OfCopies(unittest.TestCase):

    def replayed(self, bank, night, calls):
        """A run that was never copied, behind these calls."""
        run = Run(Bank(bank), night)
        for call in calls:
            try:
                run.go_on(call)
            except (Early, TooEarly):
                pass
        return run

    def test_copies_of_copies_stand_as_runs_of_their_own(self):
        for seed in range(60):
            draw, bank, night = nights.drawn(seed, 3)
            names = nights.names_in(bank)
            runs = [(Run(Bank(bank), night), [])]
            for _ in range(40):
                run, calls = draw.choice(runs)
                if draw.random() < 0.2:
                    runs.append((run.copy(), list(calls)))
                    continue
                call = drawn_call(draw, bank)
                takes_too_much = call[0] == 'take' and call[2] > dict(nights.branches_in(bank))[call[1]]
                if takes_too_much or (call[0] == 'carry' and call[1] == call[2]):
                    call = ('post', draw.choice(names), 2)
                calls.append(call)
                try:
                    run.go_on(call)
                except (Early, TooEarly):
                    pass
                # What is read off a run, or done with what is read off it, changes none of them.
                run.branch_at(call[1]).post(9)
                run.shelf_of(call[1]).add('x', 'y')
            for run, calls in runs:
                self.assertEqual(stand_of(run), stand_of(self.replayed(bank, night, calls)))
