import unittest

from rolereach import errors
from tests.values import any_values

BASES = {"RoleError": ValueError, "MissingError": KeyError, "StateError": LookupError}

FIELDS = {
    "RoleError": {
        "InvalidName": ["value"], "InvalidTaker": ["value"], "InvalidRight": ["value"],
        "InvalidKind": ["value"], "InvalidFlag": ["value"], "InvalidAudience": ["value"],
        "InvalidMode": ["value"], "InvalidBody": ["value"], "InvalidThing": ["value"],
        "InvalidThings": ["value"], "InvalidGrant": ["value"], "InvalidGrants": ["value"],
        "InvalidDefault": ["value"], "InvalidDefaults": ["value"], "InvalidStep": ["name", "index"],
        "InvalidSystem": ["value"], "InvalidDeed": ["value"], "InvalidTeam": ["value"],
        "InvalidNames": ["value"], "InvalidLevels": ["value"], "InvalidExtent": ["value"],
        "InvalidGoal": ["value"], "InvalidPlan": ["value"], "InvalidSession": ["value"],
        "InvalidServer": ["value"], "InvalidManager": ["value"], "InvalidText": ["value"],
        "InvalidLine": ["index"], "InvalidCommand": ["value"], "InvalidLines": ["value"],
        "DuplicateName": ["name"], "DuplicateGrant": ["value"], "DuplicateDefault": ["value"],
        "TooMany": ["count"], "TooLong": ["count"], "Unrooted": ["value"], "Mismatch": ["value"],
    },
    "MissingError": {"UnknownRole": ["name"], "UnknownThing": ["name"], "UnknownGrant": ["value"]},
    "StateError": {
        "NameTaken": ["name"], "Denied": ["role", "right", "thing"], "NotAdmitted": ["taker"],
        "NoGrant": ["value"], "Dependents": ["value"], "NotOwner": ["owner"],
        "CallFailed": ["function", "index"], "PlanFailed": ["index"], "AtLogin": [], "InBlock": [],
        "NothingToUndo": [], "NothingToRedo": [],
    },
}


def rows():
    for base, classes in FIELDS.items():
        for name, fields in classes.items():
            yield base, name, fields


class ErrorsTest(unittest.TestCase):
    def test_bases(self):
        for name, parent in BASES.items():
            base = getattr(errors, name)
            self.assertEqual(base.__bases__, (parent,))
            self.assertEqual(base("why").args, ("why",))

    def test_each_class_is_directly_under_its_base(self):
        for base, name, _ in rows():
            self.assertEqual(getattr(errors, name).__bases__, (getattr(errors, base),), name)

    def test_there_are_no_other_classes(self):
        found = sorted(name for name, value in vars(errors).items() if isinstance(value, type))
        self.assertEqual(found, sorted(list(BASES) + [name for _, name, _ in rows()]))

    def test_fields_by_position_keep_the_very_objects(self):
        values = any_values()
        for _, name, fields in rows():
            for at in range(len(values)):
                given = [values[at - shift] for shift in range(len(fields))]
                error = getattr(errors, name)(*given)
                for field, value in zip(fields, given):
                    self.assertIs(getattr(error, field), value, name)

    def test_fields_by_name(self):
        for _, name, fields in rows():
            given = {field: [field] for field in fields}
            error = getattr(errors, name)(**given)
            for field in fields:
                self.assertIs(getattr(error, field), given[field], name)

    def test_one_argument_for_each_field(self):
        for _, name, fields in rows():
            with self.assertRaises(TypeError):
                getattr(errors, name)(*fields, "more")
            if fields:
                with self.assertRaises(TypeError):
                    getattr(errors, name)(*fields[1:])

    def test_they_are_caught_by_their_bases(self):
        for base, name, fields in rows():
            with self.assertRaises(BASES[base]):
                raise getattr(errors, name)(*fields)
            self.assertIsInstance(str(getattr(errors, name)(*fields)), str)


if __name__ == "__main__":
    unittest.main()
