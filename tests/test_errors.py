"""Point 10 and the head of the interface: the classes of errors, their families and fields."""

import unittest

from ledcalls import errors

FAMILIES = ('PaperError', 'CallError', 'BoardError', 'TextError')
FIELDS = {
    'InvalidPaper': ('PaperError', ('word', 'at')),
    'NotUsable': ('CallError', ('word', 'at')),
    'InvalidEvent': ('BoardError', ('event', 'reason')),
    'NothingToUndo': ('BoardError', ('steps',)),
    'Broken': ('BoardError', ('done',)),
    'InvalidText': ('TextError', ('line', 'field')),
    'InvalidRow': ('TextError', ('row',)),
}
KEPT = (None, True, 7, '', [1, [2]], (1, (2, [])), {'a': 1})


class TestErrors(unittest.TestCase):

    def test_base_and_families(self):
        self.assertEqual(errors.LedError.__bases__, (ValueError,))
        for family in FAMILIES:
            self.assertEqual(getattr(errors, family).__bases__, (errors.LedError,), family)

    def test_each_error_is_derived_directly_from_its_family_alone(self):
        for name, (family, _) in FIELDS.items():
            self.assertEqual(getattr(errors, name).__bases__, (getattr(errors, family),), name)

    def test_there_are_no_other_classes(self):
        classes = {name for name, thing in vars(errors).items() if isinstance(thing, type)}
        self.assertEqual(classes, {'LedError', *FAMILIES, *FIELDS})

    def test_fields_by_position_and_by_name_are_kept_as_they_are(self):
        for name, (_, fields) in FIELDS.items():
            for k in range(len(KEPT)):
                things = [KEPT[(k + j) % len(KEPT)] for j in range(len(fields))]
                named = dict(zip(fields, things))
                error_class = getattr(errors, name)
                for error in (error_class(*things), error_class(**named)):
                    self.assertEqual(list(vars(error)), list(fields))
                    for field in fields:
                        self.assertIs(getattr(error, field), named[field])

    def test_exactly_the_fields_are_needed(self):
        for name, (_, fields) in FIELDS.items():
            error_class = getattr(errors, name)
            self.assertRaises(TypeError, error_class, *fields[1:])
            self.assertRaises(TypeError, error_class, *fields, 1)
            self.assertRaises(TypeError, error_class, *fields, more=1)

    def test_they_are_raised_and_caught_by_family(self):
        for name, (family, fields) in FIELDS.items():
            with self.assertRaises(getattr(errors, family)):
                raise getattr(errors, name)(*fields)


if __name__ == '__main__':
    unittest.main()
