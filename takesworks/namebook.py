"""The book of names: which names are one's, as it was told."""

from takesworks.errors import NoName, NoNumber, Same, Struck
from takesworks.kinds import is_whole, is_within
from takesworks.links import groups_in, is_closed, linked, steps_from
from takesworks.names import is_name


def other_end(pair, name):
    """Where a telling leads from one of its two names."""
    return pair[1] if pair[0] == name else pair[0]


def refuse_unless_two_names(one, other):
    """Refuses things, of any kind, that are not two unlike names."""
    for name in (one, other):
        if not is_name(name):
            raise NoName(name)
    if one == other:
        raise Same(one)


class Names:
    """Tellings that two names are one's, numbered from 0; those that were struck count no more."""

    def __init__(self):
        self.many = 0
        self.counting = {}
        self.links = {}
        self.groups = {}

    def sort_out(self):
        """Links and classes anew: names are asked for far more often than they are told."""
        pairs = list(self.counting.values())
        self.links = linked([name for pair in pairs for name in pair], pairs)
        self.groups = {name: group for group in groups_in(self.links) for name in group}

    def tell(self, one, other):
        """Two names are one's; the telling's number."""
        refuse_unless_two_names(one, other)
        number = self.many
        self.many += 1
        self.counting[number] = (one, other)
        self.sort_out()
        return number

    def strike(self, number):
        """The telling counts no more; what falls by this: nothing, or a class and its two parts."""
        if not is_within(number, 0, self.many - 1):
            raise NoNumber(number)
        if number not in self.counting:
            raise Struck(number)
        one, other = self.counting[number]
        whole = self.class_of(one)
        del self.counting[number]
        self.sort_out()
        if self.are_one(one, other):
            return ()
        return ((whole, tuple(sorted([self.class_of(one), self.class_of(other)]))),)

    def class_of(self, name):
        """The rising tuple of all names that are one with it, it too."""
        return self.groups.get(name, (name,))

    def are_one(self, one, other):
        """Whether two names are alike, or tellings that count lead from one to the other."""
        return self.class_of(one)[0] == self.class_of(other)[0]

    def classes(self):
        """The rising tuple of the classes of two names or more."""
        return groups_in(self.links)

    def chain(self, one, other):
        """The numbers of the shortest row of tellings from one to other, of the shortest the least; or None."""
        steps = steps_from(self.links, other)
        if one not in steps:
            return None
        numbers = []
        name = one
        while name != other:
            number = self.first_nearer(name, steps)
            numbers.append(number)
            name = other_end(self.counting[number], name)
        return tuple(numbers)

    def first_nearer(self, name, steps):
        """The least number of a telling that leads from name to where fewer steps are left."""
        return min([number for number, pair in self.counting.items()
                    if name in pair and steps[other_end(pair, name)] < steps[name]])

    def shows_chain(self, one, other, thing):
        """Whether the thing, of any kind, is a row of tellings that leads from one to other."""
        if not isinstance(thing, tuple):
            return False
        name = one
        for number in thing:
            if not is_whole(number) or number not in self.counting or name not in self.counting[number]:
                return False
            name = other_end(self.counting[number], name)
        return name == other

    def shows_apart(self, one, other, thing):
        """Whether the thing, of any kind, is a tuple of names with one, without other, that no telling leaves."""
        if not isinstance(thing, tuple) or not all([is_name(name) for name in thing]):
            return False
        return one in thing and other not in thing and is_closed(self.links, thing)

    def called(self, name, tongue):
        """The least name of its class that is of this tongue; the name, where there is none."""
        fitting = [known for known in self.class_of(name) if known[0] == tongue]
        return name if len(fitting) == 0 else fitting[0]
