"""A train: its wheels, in the order in which they were put in, and its joins, by their numbers."""

from cogtrain.errors import Full, NoJoin, NoName, NoTeeth, NoWheel, Twice

LETTERS = "abcdefghijklmnopqrstuvwxyz"
LONGEST_NAME = 8
TEETH_BOUND = 1_000_000_000
KINDS = ("mesh", "pin", "band", "cross")
MOST_WHEELS = 100
MOST_JOINS = 200


def is_name(text):
    if len(text) < 1 or len(text) > LONGEST_NAME:
        return False
    return all([sign in LETTERS for sign in text])


# No refusal's words tell a number that was handed in: Python doesn't write out numbers of any size.
class Train:
    def __init__(self):
        self.teeth_of = {}
        self.join_of = {}
        # Kept apart from the joins that stand, so that the number of one taken out is not given again.
        self.next_number = 0

    def put_wheel(self, name, teeth):
        if not is_name(name):
            raise NoName("a name is one to eight of the letters a to z")
        if name in self.teeth_of:
            raise Twice("a wheel of the train has that name")
        if teeth < 1 or teeth >= TEETH_BOUND:
            raise NoTeeth("teeth go from 1 to below 10 ** 9")
        if len(self.teeth_of) >= MOST_WHEELS:
            raise Full("the train has 100 wheels")
        self.teeth_of[name] = teeth

    def put_join(self, kind, one, other):
        if kind not in KINDS:
            raise NoJoin("a join is a mesh, a pin, a band or a cross")
        if one not in self.teeth_of or other not in self.teeth_of:
            raise NoWheel("a join stands between two wheels of the train")
        if one == other:
            raise NoJoin("a join stands between two unlike wheels")
        if len(self.join_of) >= MOST_JOINS:
            raise Full("the train has 200 joins")
        number = self.next_number
        self.join_of[number] = (number, kind, one, other)
        self.next_number = number + 1
        return number

    def take_join(self, number):
        if number not in self.join_of:
            raise NoJoin("no join of the train has that number")
        self.join_of.pop(number)

    def wheels(self):
        return list(self.teeth_of.items())

    def joins(self):
        return list(self.join_of.values())
