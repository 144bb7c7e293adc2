import random
import unittest

from farhaul.fields.field import Field
from reference import MODULI, all_fields, fresh, poly_value, raises, reducibles, slow_rest, slow_times


class TestField(unittest.TestCase):
    def test_listed_moduli_are_irreducible(self):
        found = reducibles(8)
        for m in MODULI:
            for modulus in MODULI[m]:
                self.assertEqual(modulus.bit_length() - 1, m)
                self.assertFalse(found[modulus])

    def test_plain_facts(self):
        for m in MODULI:
            for modulus in MODULI[m]:
                field = Field(m, modulus)
                self.assertEqual((field.bits(), field.modulus(), field.size()), (m, modulus, 2 ** m))

    def test_add_and_times(self):
        for field in all_fields():
            rng = random.Random(field.modulus())
            pairs = [(e, f) for e in range(min(field.size(), 32)) for f in range(min(field.size(), 32))]
            pairs += [(rng.randrange(field.size()), rng.randrange(field.size())) for _ in range(300)]
            for e, f in pairs:
                self.assertEqual(field.add(e, f), e ^ f)
                self.assertEqual(field.times(e, f), slow_rest(slow_times(e, f), field.modulus()))

    def test_inverse(self):
        for field in all_fields():
            for e in range(1, field.size()):
                self.assertEqual(field.times(e, field.inverse(e)), 1)
            raises(self, "NoInverse", 0, field.inverse, 0)

    def test_power(self):
        for field in all_fields():
            for e in range(1, field.size()):
                power = 1
                for k in range(6):
                    self.assertEqual(field.power(e, k), power)
                    self.assertEqual(field.times(field.power(e, -k), power), 1)
                    power = field.times(power, e)

    def test_great_powers(self):
        for field in all_fields():
            for e in range(1, field.size()):
                squared = e
                for _ in range(32):
                    squared = field.times(squared, squared)
                self.assertEqual(field.power(e, 2 ** 32), squared)
                self.assertEqual(field.times(field.power(e, -(2 ** 32)), squared), 1)
                self.assertEqual(field.times(field.power(e, 2 ** 32 - 1), e), squared)

    def test_power_of_zero(self):
        for field in all_fields():
            self.assertEqual(field.power(0, 0), 1)
            for k in (1, 2, field.size() - 1, 2 ** 32):
                self.assertEqual(field.power(0, k), 0)
            for k in (-1, -2, 1 - field.size(), -(2 ** 32)):
                raises(self, "NoInverse", 0, field.power, 0, k)

    def test_order(self):
        for field in all_fields():
            for e in range(1, field.size()):
                k, power = 1, e
                while power != 1:
                    k, power = k + 1, slow_rest(slow_times(power, e), field.modulus())
                self.assertEqual(field.order(e), k)
            raises(self, "NoInverse", 0, field.order, 0)

    def test_root_and_log(self):
        for field in all_fields():
            primitive = [e for e in range(1, field.size()) if field.order(e) == field.size() - 1]
            self.assertEqual(field.root(), primitive[0])
            power = 1
            for k in range(field.size() - 1):
                self.assertEqual(field.log(power), k)
                power = slow_rest(slow_times(power, field.root()), field.modulus())
            raises(self, "NoInverse", 0, field.log, 0)
        # Here x itself is not primitive.
        self.assertEqual(Field(8, 283).root(), 3)
        self.assertEqual(Field(4, 31).root(), 3)

    def test_lists_of_elements(self):
        rng = random.Random(105)
        for field in all_fields():
            for size in (0, 1, 2, 9):
                items, others = ([rng.randrange(field.size()) for _ in range(size)] for _ in range(2))
                for e in (0, 1, field.size() - 1, rng.randrange(field.size())):
                    self.assertEqual(fresh(self, field.scaled, items, e), [field.times(f, e) for f in items])
                    self.assertEqual(field.value(items, e), poly_value(field, items, e))
                total = 0
                for f, g in zip(items, others):
                    total ^= field.times(f, g)
                self.assertEqual(field.dot(items, others), total)
                self.assertEqual(field.dot(items + [1], others), total)

    def test_degree_out_of_range(self):
        for m in (1, 0, -1, -8, 9, 10, 2 ** 40, -(2 ** 40)):
            # The modulus is wrong, too, or of this very degree: the degree is looked at first.
            for modulus in (0, -1, 3, 7, 515, 2 ** 70):
                raises(self, "OutOfRange", m, Field, m, modulus)

    def test_modulus(self):
        found = reducibles(8)
        for m in range(2, 9):
            for modulus in range(-20, 600):
                if modulus >= 0 and modulus.bit_length() - 1 == m and not found[modulus]:
                    self.assertEqual(Field(m, modulus).modulus(), modulus)
                else:
                    raises(self, "NotIrreducible", modulus, Field, m, modulus)
            for modulus in (-MODULI[m][0], -(10 ** 40), 2 ** 32, 10 ** 40):
                raises(self, "NotIrreducible", modulus, Field, m, modulus)
