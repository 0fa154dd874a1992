"""All forms that look into records at once: what each field, there or not, does to them.

What is done is a number: the bit of a form of records stands for its being broken,
that of a form of look for its word being there. So the doings of several fields are joined with `|`.
"""


class FieldRule:
    """What the forms say of one field."""

    def __init__(self):
        self.musts = 0
        self.tellers = 0
        self.wants = []
        self.looks = []


class RecordTable:
    """What some forms say of records, field by field."""

    def __init__(self):
        self.kept = 0
        self.shut = 0
        self.rules = {}

    def rule(self, field):
        """The rule of a field, made where there is none."""
        if field not in self.rules:
            self.rules[field] = FieldRule()
        return self.rules[field]

    def add_form(self, bit, fields, is_open):
        """Takes in the form of records of this bit; fields are tuples of a field, must, and the bit of F."""
        self.kept |= bit
        if not is_open:
            self.shut |= bit
        for field, must, wanted in fields:
            rule = self.rule(field)
            rule.tellers |= bit
            rule.wants.append((wanted, bit))
            if must:
                rule.musts |= bit

    def add_look(self, bit, field, word_bit):
        """Takes in the form of look of this bit."""
        self.rule(field).looks.append((word_bit, bit))

    def missing(self, field):
        """What is done where the field is not there."""
        if field not in self.rules:
            return 0
        return self.rules[field].musts

    def there(self, field, mask):
        """What is done where the field is there, with a thing of this mask."""
        if field not in self.rules:
            return self.shut
        rule = self.rules[field]
        done = self.shut & ~rule.tellers
        for wanted, bit in rule.wants:
            if not mask & wanted:
                done |= bit
        for word_bit, bit in rule.looks:
            if mask & word_bit:
                done |= bit
        return done

    def done_by(self, masks):
        """What is done by a record; masks is a dict from its fields to the masks of what they hold."""
        done = 0
        for field in self.rules:
            if field not in masks:
                done |= self.missing(field)
        for field, mask in masks.items():
            done |= self.there(field, mask)
        return done
