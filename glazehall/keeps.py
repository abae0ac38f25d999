"""A keeper of a row of rules: it keeps their products, so that one rule put anew asks for few of them again."""

from glazehall.errors import NoLayer
from glazehall.rules import IDENTITY, behind
from glazehall.wholes import is_whole


class Keeper:
    def __init__(self, rules):
        self.row = list(rules)
        # The product of each stretch of the row that was asked for, under the stretch's two ends.
        self.kept = {}
        self.products = 0

    def many(self):
        return len(self.row)

    def height(self):
        reached = 1
        steps = 0
        while reached < len(self.row):
            reached = 2 * reached
            steps = steps + 1
        return steps

    def made(self):
        return self.products

    # Python counts numbers below 0 from the row's end on, and takes True for 1; here they are no rule's numbers.
    def refuse_beyond(self, k, many):
        if not is_whole(k) or k < 0 or k >= many:
            raise NoLayer("no rule of the keeper has this number")

    def rule_at(self, k):
        self.refuse_beyond(k, len(self.row))
        return self.row[k]

    def put_at(self, k, rule):
        self.refuse_beyond(k, len(self.row))
        self.row[k] = rule
        for ends in list(self.kept):
            if ends[0] <= k < ends[1]:
                self.kept.pop(ends)

    # Behind a rule put in or taken out the stretches have other ends, so that no product is of use any more.
    def put_in(self, k, rule):
        self.refuse_beyond(k, len(self.row) + 1)
        self.row.insert(k, rule)
        self.kept.clear()

    def take_out(self, k):
        self.refuse_beyond(k, len(self.row))
        self.row.pop(k)
        self.kept.clear()

    # Halving the stretch each time puts no rule into more stretches than the height.
    def product(self, low, high):
        if high - low == 1:
            return self.row[low]
        if (low, high) not in self.kept:
            middle = (low + high) // 2
            self.kept[(low, high)] = behind(self.product(low, middle), self.product(middle, high))
            self.products = self.products + 1
        return self.kept[(low, high)]

    def whole(self):
        if len(self.row) == 0:
            return IDENTITY
        return self.product(0, len(self.row))
