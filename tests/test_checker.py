"""Promise 8: what check_claim accepts and what it does not."""

import unittest
from copy import deepcopy

from bentcoin.checker import check_claim
from tests.changes import ANY, list_changes
from tests.claims import (
    HALF, NOWHERE, ONE, P, RECIPES, STAYING, ZERO, blow, dear_candidates, fits, list_claims,
)
from tests.machine_helpers import (
    COIN, CYCLE_TRAP, FAIR, HALF_TRAP, LOOP, MIXED, NEVER, TWICE, UNREACHED, make_chain, plain_chance,
    plain_mean, plain_never,
)
from tests.plain_checker import plain_check

CLAIMS = list_claims()
WORDS = (
    "stays", "none", "recipe", "dear", "ends", "trapped", "chance", "never", "mean", "alike", "parted",
)


class Accepted(unittest.TestCase):

    def test_examples(self):
        claim = ("recipe", ((1,), (2,)), (2, (0, 1, 0), (0, 2, 0)))
        self.assertIs(check_claim(claim, ()), True)
        self.assertIs(check_claim(("none", ((0, 2), (1,))), ("beyond", (1, 2), (1, 1))), True)
        self.assertIs(check_claim(certificate=(), claim=claim), True)

    def test_each_claim_has_certificates(self):
        self.assertEqual({claim[0] for claim, _ in CLAIMS}, set(WORDS))
        dears = {certificate[0] for claim, certificate in CLAIMS if claim[0] == "dear"}
        self.assertEqual(dears, {"short", "signs", "room"})

    def test_accepted(self):
        for claim, certificate in CLAIMS:
            self.assertTrue(plain_check(claim, certificate), (claim, certificate))
            self.assertIs(check_claim(claim, certificate), True, (claim, certificate))

    def test_changed_at_one_place(self):
        for claim, certificate in CLAIMS:
            for changed in list_changes(certificate):
                due = plain_check(claim, changed)
                self.assertIs(check_claim(claim, changed), due, (claim, changed))

    def test_any_value(self):
        for claim, _ in CLAIMS:
            for value in ANY:
                if not (claim[0] == "recipe" and value == ()):
                    self.assertIs(check_claim(claim, value), plain_check(claim, value), (claim, value))

    def test_arguments_are_not_changed(self):
        values = ([0, [1, {"a": (2, [3])}]], {"ranks": [0, 1]}, ("ranks", [1, 0, 0]), ("table", [[], {}]))
        for value in (*values, ("trap", ["H"], [1, 0]), ("tables", [[0, [], []]]), ("covers", [(0, 1)], {})):
            kept = deepcopy(value)
            for claim, _ in CLAIMS:
                self.assertIs(check_claim(claim, value), False)
            self.assertEqual(value, kept)

    def test_certificates_of_other_claims(self):
        for claim, _ in CLAIMS:
            for _, certificate in CLAIMS[::3]:
                due = plain_check(claim, certificate)
                self.assertIs(check_claim(claim, certificate), due, (claim, certificate))

    def test_other_claims(self):
        """Check the certificates for claims that differ in a number or in a rational function."""
        for claim, certificate in CLAIMS:
            for other in other_claims(claim):
                due = plain_check(other, certificate)
                self.assertIs(check_claim(other, certificate), due, (other, certificate))


def other_claims(claim):
    if claim[0] in ("chance", "never", "mean"):
        for q in (ZERO, ONE, HALF, P, ((1, 1), (1,)), ((), (-7,))):
            yield (*claim[:-1], q)
    if claim[0] == "recipe":
        for q in (ZERO, ONE, HALF, P, blow(HALF), ((-1,), (2,))):
            yield (claim[0], q, claim[2])
    if claim[0] == "dear":
        for m in range(12):
            yield (*claim[:2], m)
    if claim[0] in ("none", "stays"):
        for q in (*STAYING, *[q for q, _ in NOWHERE], ZERO, ONE):
            yield (claim[0], q)
    if claim[0] == "parted":
        for p in ((1, 2), (1, 3), (2, 7), (998, 999)):
            yield (*claim[:3], p, claim[4])
        for answer in (0, 1, 4, 7, 42):
            yield (*claim[:4], answer)
    if claim[0] in ("parted", "alike"):
        yield (claim[0], claim[2], claim[1], *claim[3:])
        yield (claim[0], claim[1], claim[1], *claim[3:])


class Signs(unittest.TestCase):

    def test_constants_are_no_reason(self):
        # 0 and 1 are probabilities, though their numerator or their rest is 0 everywhere.
        for q, which in ((ZERO, "upper"), (ONE, "rest")):
            self.assertFalse(check_claim(("none", q), ("root", which, (-1, 2), (1, 2), (1, 2))))
            self.assertFalse(check_claim(("none", q), ("root", which, (0, 1), (1, 2), (1, 2))))
            value = (0, 1) if q == ZERO else (1, 1)
            self.assertFalse(check_claim(("none", q), ("beyond", (1, 2), value)))
            covers = ("covers", ((0, 1), (1, 1)), ((0, 1), (1, 1)))
            self.assertFalse(check_claim(("stays", q), covers))

    def test_pole(self):
        q = ((1,), (1, -2))
        for value in ((0, 1), (1, 1), (2, 1), (-1, 1), (1, 0), (1, 2)):
            self.assertFalse(check_claim(("none", q), ("beyond", (1, 2), value)))

    def test_ends(self):
        for p, value in (((0, 1), (0, 1)), ((1, 1), (2, 1)), ((3, 2), (3, 1)), ((-1, 2), (-1, 1))):
            self.assertFalse(check_claim(("none", ((0, 2), (1,))), ("beyond", p, value)))

    def test_value_between(self):
        self.assertFalse(check_claim(("none", ((0, 2), (1,))), ("beyond", (1, 3), (2, 3))))
        self.assertFalse(check_claim(("none", ((0, 2), (1,))), ("beyond", (2, 3), (5, 3))))
        self.assertTrue(check_claim(("none", ((0, 2), (1,))), ("beyond", (2, 3), (4, 3))))

    def test_unreduced_values(self):
        self.assertFalse(check_claim(("none", ((0, 2), (1,))), ("beyond", (1, 2), (2, 2))))
        self.assertFalse(check_claim(("none", ((0, 2), (1,))), ("beyond", (2, 4), (1, 1))))
        self.assertFalse(check_claim(("none", ((0, 2), (1,))), ("beyond", (-1, -2), (1, 1))))
        self.assertFalse(check_claim(("none", ((0, 2), (1,))), ("beyond", (1, 2), (True, True))))


class Recipes(unittest.TestCase):

    def test_unreduced_pairs(self):
        for recipe, q in RECIPES:
            self.assertTrue(check_claim(("recipe", q, recipe), ()))
            self.assertTrue(check_claim(("recipe", blow(q), recipe), ()))
            for certificate in (None, [], ((),), "", 0, {}, False):
                self.assertFalse(check_claim(("recipe", q, recipe), certificate))

    def test_longest(self):
        row = [1]
        for _ in range(40):
            row = [a + b for a, b in zip([*row, 0], [0, *row])]
        upper = tuple(c // 2 for c in row)
        self.assertTrue(check_claim(("recipe", ONE, (40, tuple(row), tuple(row))), ()))
        self.assertFalse(check_claim(("recipe", HALF, (40, upper, tuple(row))), ()))


class Dear(unittest.TestCase):

    def test_exactly_where_it_does_not_fit(self):
        """Where q stays inside, some certificate is accepted just where it fits no m tosses."""
        for q in STAYING:
            for m in range(12):
                candidates = dear_candidates(q, m)
                for certificate in candidates:
                    self.assertTrue(check_claim(("dear", q, m), certificate), (q, m, certificate))
                self.assertEqual(candidates == [], fits(q, m), (q, m))

    def test_forty_tosses(self):
        for q in (((1,), (10 ** 14,)), ((0, 1), (10 ** 13, 1)), ((5, -24, 29), (40,))):
            for m in (30, 39, 40):
                candidates = dear_candidates(q, m)
                self.assertEqual(candidates == [], fits(q, m))
                for certificate in candidates[:40]:
                    self.assertTrue(check_claim(("dear", q, m), certificate))
                    for changed in list_changes(certificate):
                        due = plain_check(("dear", q, m), changed)
                        self.assertIs(check_claim(("dear", q, m), changed), due)

    def test_none_is_accepted_where_it_fits(self):
        for q in (*STAYING, ZERO, ONE):
            for m in [m for m in range(9) if fits(q, m)]:
                self.assertFalse(check_claim(("dear", q, m), ("short",)))
                for which in ("upper", "rest"):
                    for k in range(-1, m + 2):
                        self.assertFalse(check_claim(("dear", q, m), ("signs", which, k)))
                        for n0 in range(-1, m + 1):
                            for j in range(-1, m + 2):
                                certificate = ("room", n0, which, k, j)
                                self.assertFalse(check_claim(("dear", q, m), certificate))

    def test_the_last_entry(self):
        # The numerator's form is negative at its last index alone: q is not inside near 1.
        q = ((1, 0, -2), (1,))
        for m in (2, 3, 7):
            for k in range(m + 2):
                due = plain_check(("dear", q, m), ("signs", "upper", k))
                self.assertIs(check_claim(("dear", q, m), ("signs", "upper", k)), due)
            self.assertTrue(check_claim(("dear", q, m), ("signs", "upper", m)))

    def test_room_needs_forms_without_a_negative_entry(self):
        # The numerator's form of degree 2 is (1, -1, 1): room counts from one raise on.
        q = ((1, -3, 3), (100,))
        for m in (2, 3, 4, 5):
            for j in range(m + 1):
                self.assertFalse(check_claim(("dear", q, m), ("room", 0, "upper", 0, j)))
                for k in range(4):
                    certificate = ("room", 1, "upper", k, j)
                    self.assertIs(check_claim(("dear", q, m), certificate), plain_check(("dear", q, m), certificate))

    def test_words(self):
        q = ((3, -8, 7), (4,))
        for which in ("lower", "Upper", "", None, 0, ["upper"]):
            for k in range(5):
                self.assertFalse(check_claim(("dear", q, 4), ("signs", which, k)))
                self.assertFalse(check_claim(("dear", ((1,), (9,)), 2), ("room", 0, which, k, 0)))


class Machines(unittest.TestCase):

    def test_ranks_of_reachable_states_without_an_end(self):
        for machine in (NEVER, LOOP, HALF_TRAP, CYCLE_TRAP, MIXED):
            for rank in (None, 0, 1, 5):
                ranks = tuple(0 if state[0] == "end" else rank for state in machine)
                self.assertFalse(check_claim(("ends", machine), ("ranks", ranks)))
            ranks = tuple(range(len(machine), 0, -1))
            self.assertFalse(check_claim(("ends", machine), ("ranks", ranks)))

    def test_ranks_in_a_cycle(self):
        machine = (("toss", 1, 1), ("toss", 0, 0), ("end", 1))
        for one in range(-2, 4):
            for other in range(-2, 4):
                for last in (None, 0):
                    ranks = (one, other, last)
                    self.assertFalse(check_claim(("ends", machine), ("ranks", ranks)))

    def test_larger_ranks(self):
        self.assertTrue(check_claim(("ends", FAIR), ("ranks", (10 ** 59, 5, 7, 0, 0))))
        self.assertTrue(check_claim(("ends", FAIR), ("ranks", (6, 9, 5, 0, 0))))
        self.assertFalse(check_claim(("ends", FAIR), ("ranks", (5, 9, 5, 0, 0))))
        self.assertTrue(check_claim(("ends", make_chain(60)), ("ranks", tuple(range(118, -1, -2)))))

    def test_traps(self):
        for tape, states, due in (
            ("T", (2, 3, 4), True), ("THT", (2, 3, 4), True), ("THT", (4,), True), ("TH", (4,), False),
            ("THTT", (2, 3, 4), False), ("THTT", (4,), False), ("", (2, 3, 4), False),
            ("H", (2, 3, 4), False), ("TX", (2, 3, 4), False),
            ("T", (2, 3), False), ("T", (3, 2, 4), False), ("T", (2, 3, 3, 4), False), ("T", (), False),
            ("T", (1, 2, 3, 4), False), ("T", (0, 1, 2, 3, 4), False), ("THTTH", (4,), False),
            ("T", (2, 3, 4, 5), False), ("T", (-1, 2, 3, 4), False), ("T", [2, 3, 4], False),
            (["T"], (2, 3, 4), False), (("T",), (2, 3, 4), False), (None, (2, 3, 4), False),
            ("t", (2, 3, 4), False), ("H" * 50, (2, 3, 4), False), ("HT", (2, 3, 4), False),
        ):
            result = check_claim(("trapped", CYCLE_TRAP), ("trap", tape, states))
            self.assertIs(result, due, (tape, states))

    def test_trap_with_a_way_out_on_one_side(self):
        for machine in ((("toss", 0, 1), ("end", 1)), (("toss", 1, 0), ("end", 1))):
            self.assertFalse(check_claim(("trapped", machine), ("trap", "", (0,))))
        self.assertTrue(check_claim(("trapped", (("toss", 0, 0), ("end", 1))), ("trap", "", (0,))))

    def test_trap_out_of_reach(self):
        self.assertFalse(check_claim(("trapped", UNREACHED), ("trap", "", (4,))))
        self.assertFalse(check_claim(("trapped", UNREACHED), ("trap", "HT", (4,))))

    def test_a_loop_has_no_value_of_its_own(self):
        # Each number is its own mean in a loop; only 0 is a chance to end, 1 that of running on.
        for value in (ZERO, HALF, P, ONE):
            table = ("table", (value,))
            self.assertEqual(check_claim(("chance", LOOP, 0, value), table), value == ZERO)
            self.assertEqual(check_claim(("never", LOOP, value), table), value == ONE)

    def test_mean_with_any_values_out_of_reach(self):
        table = plain_mean(UNREACHED)
        ranks = (2, 1, 0, None, None, None)
        claim = ("mean", UNREACHED, table[0])
        for value in (ZERO, ONE, HALF, ((-5, 7), (0, 3)), blow(P)):
            for at in (3, 4, 5):
                changed = (*table[:at], value, *table[at + 1:])
                self.assertTrue(check_claim(claim, ("table", changed, ranks)))
        for value in (None, 0, (1, 2), ((1,), ()), ((1, 0), (1,)), [(), (1,)], ((True,), (1,))):
            for at in range(6):
                changed = (*table[:at], value, *table[at + 1:])
                self.assertFalse(check_claim(claim, ("table", changed, ranks)))

    def test_mean_of_a_machine_that_may_run_forever(self):
        for machine in (NEVER, LOOP, HALF_TRAP, MIXED):
            table = (ONE,) * len(machine)
            for ranks in ((None,) * len(machine), (0,) * len(machine), (1,) * len(machine)):
                self.assertFalse(check_claim(("mean", machine, ONE), ("table", table, ranks)))

    def test_alike_with_other_rows(self):
        rows = tuple((a, plain_chance(FAIR, a), plain_chance(FAIR, a)) for a in (0, 1))
        claim = ("alike", FAIR, FAIR)
        self.assertTrue(check_claim(claim, ("tables", rows)))
        more = (2, plain_chance(FAIR, 2), plain_chance(FAIR, 2))
        for wrong in (
            (), rows[:1], rows[1:], rows[::-1], (*rows, rows[1]), (rows[0], rows[0]), (rows[0], *rows),
            (*rows, more), list(rows), (rows[0], list(rows[1])), (rows[0], (*rows[1], 0)),
            ((False, *rows[0][1:]), rows[1]), (rows[0], (True, *rows[1][1:])),
        ):
            self.assertFalse(check_claim(claim, ("tables", wrong)))

    def test_alike_needs_equal_chances_in_state_0(self):
        swapped = (("toss", 2, 1), ("end", 1), ("end", 0))
        for one, other in ((COIN, swapped), (COIN, FAIR), (FAIR, TWICE)):
            answers = sorted({state[1] for state in one + other if state[0] == "end"})
            rows = tuple((a, plain_chance(one, a), plain_chance(other, a)) for a in answers)
            self.assertFalse(check_claim(("alike", one, other), ("tables", rows)))

    def test_alike_without_answers(self):
        self.assertTrue(check_claim(("alike", NEVER, LOOP), ("tables", ())))
        self.assertFalse(check_claim(("alike", NEVER, LOOP), ("tables", ((0, (ZERO,), (ZERO,)),))))

    def test_unreachable_ends_have_rows(self):
        more = (*COIN, ("end", 6))
        rows = tuple((a, plain_chance(COIN, a), plain_chance(more, a)) for a in (0, 1, 6))
        self.assertTrue(check_claim(("alike", COIN, more), ("tables", rows)))
        self.assertFalse(check_claim(("alike", COIN, more), ("tables", rows[:2])))

    def test_denominators_of_either_sign_and_zero(self):
        table = plain_chance(FAIR, 1)
        claim = ("chance", FAIR, 1, HALF)
        for at in range(len(table)):
            minus = tuple(tuple(-c for c in part) for part in table[at])
            for value, due in ((minus, True), (blow(table[at]), True), ((table[at][0], ()), False), (((), ()), False)):
                changed = (*table[:at], value, *table[at + 1:])
                self.assertIs(check_claim(claim, ("table", changed)), due)

    def test_worths_without_a_denominator(self):
        # A state that leads to itself: no number but 1 is the mean of itself and 1.
        machine = (("toss", 0, 1), ("end", 1))
        claim = ("parted", machine, COIN, (1, 2), 1)
        other = ((1, 2), (1, 1), (0, 1))
        self.assertTrue(check_claim(claim, ("worths", ((1, 1), (1, 1)), other)))
        for worth in ((1, 0), (0, 0), (2, 0), (-1, 0), (0, 1), (1, 2), (-1, -1), (2, 2)):
            self.assertFalse(check_claim(claim, ("worths", (worth, (1, 1)), other)), worth)

    def test_long_polynomials(self):
        factor = (1,) * 400
        table = tuple(blow(pair, factor) for pair in plain_chance(COIN, 1))
        self.assertTrue(check_claim(("chance", COIN, 1, P), ("table", table)))
        upper, lower = table[0]
        wrong = (((*upper[:-1], upper[-1] + 1), lower), *table[1:])
        self.assertFalse(check_claim(("chance", COIN, 1, P), ("table", wrong)))

    def test_sixty_states(self):
        chain = make_chain(60)
        table = tuple(((59 - k,) if k < 59 else (), (1,)) for k in range(60))
        ranks = tuple(range(59, -1, -1))
        self.assertTrue(check_claim(("mean", chain, ((59,), (1,))), ("table", table, ranks)))
        self.assertFalse(check_claim(("mean", chain, ((60,), (1,))), ("table", table, ranks)))


class Contradictions(unittest.TestCase):

    def accepted(self, claim):
        """Tell whether any certificate at hand is accepted for the claim."""
        return any(check_claim(claim, certificate) for _, certificate in CLAIMS)

    def test_none_and_stays_and_recipe(self):
        for q in (*STAYING, *[q for q, _ in NOWHERE], ZERO, ONE):
            stays = self.accepted(("stays", q))
            recipe = any(check_claim(("recipe", q, recipe), ()) for recipe, _ in RECIPES)
            if self.accepted(("none", q)):
                self.assertFalse(stays or recipe, q)
            self.assertEqual(stays, q in STAYING)

    def test_dear_and_fitting(self):
        for q in (*STAYING, ZERO, ONE):
            for m in range(10):
                if fits(q, m):
                    self.assertFalse(self.accepted(("dear", q, m)), (q, m))

    def test_machines(self):
        machines = [claim[1] for claim, _ in CLAIMS if claim[0] in ("ends", "trapped")]
        for machine in machines:
            self.assertNotEqual(self.accepted(("ends", machine)), self.accepted(("trapped", machine)))

    def test_two_values(self):
        values = (ZERO, ONE, HALF, P, ((1, -1), (1,)), ((2,), (1,)), ((1, 1), (1,)))
        for claim, _ in CLAIMS:
            if claim[0] in ("chance", "never", "mean"):
                found = [q for q in values if self.accepted((*claim[:-1], q))]
                self.assertLessEqual(len(found), 1)

    def test_alike_and_parted(self):
        for claim, _ in CLAIMS:
            if claim[0] == "alike":
                for p in ((1, 2), (1, 3), (2, 7)):
                    for answer in (0, 1, 5, 6):
                        self.assertFalse(self.accepted(("parted", *claim[1:], p, answer)))
            if claim[0] == "parted":
                self.assertFalse(self.accepted(("alike", *claim[1:3])))

    def test_parted_needs_other_worths(self):
        worths = ((1, 2), (1, 1), (0, 1))
        self.assertFalse(check_claim(("parted", COIN, COIN, (1, 2), 1), ("worths", worths, worths)))
        self.assertFalse(check_claim(("parted", TWICE, TWICE, (1, 2), 5), ("worths", *[((1, 1),) * 3] * 2)))
        self.assertFalse(check_claim(("parted", LOOP, NEVER, (1, 2), 5), ("worths", ((1, 2),), ((0, 1),))))
        table = plain_never(LOOP)
        self.assertTrue(check_claim(("never", LOOP, ONE), ("table", table)))


if __name__ == "__main__":
    unittest.main()
