"""A plain memory with reservations, which says what each call must raise, and what must hold after it.

Whether something fits is decided by the numbers of cells of the unpinned objects, by the kept numbers, by the length and
by where the pinned blocks are; where the unpinned objects lie is not looked at. Their addresses are taken over from what
the program tells.
"""

from exactroom import errors
from exactroom.room import chosen_addresses
from tests import far, plain


class Thing:
    """An object of the model."""

    def __init__(self, cells, addresses):
        self.cells = cells
        self.addresses = list(addresses)
        self.pins = 0
        # What was written into the cells, by their numbers; all others hold 0.
        self.contents = {}


def piece_count(values, cells):
    count = 0
    for size in reversed(values):
        count += cells // size
        cells %= size
    return count


class Model:

    def __init__(self, values, length):
        self.values = values
        self.length = length
        self.is_far = length > 100
        self.objects = {}
        self.reservations = []

    def kept(self):
        return [cells for _, cells in self.reservations]

    def names(self):
        return list(self.objects)

    def pinned_names(self):
        return [name for name, thing in self.objects.items() if thing.pins > 0]

    def blocks_of(self, name, is_pinned):
        thing = self.objects[name]
        return [(address, level, is_pinned)
                for address, level in zip(thing.addresses, plain.pieces(self.values, thing.cells))]

    def blocks(self, skip=None):
        """Return the blocks of all objects but one."""
        found = []
        for name, thing in self.objects.items():
            if name != skip:
                found += self.blocks_of(name, thing.pins > 0)
        return sorted(found)

    def regions_beside(self, blocks, level, length):
        """Return the number of regions of the level that contain no cell of these blocks."""
        if self.is_far:
            return far.untouched(self.values, length, blocks, level)
        return len(plain.regions_without(self.values, length, level, plain.taken_cells(self.values, blocks)))

    def slack(self, level, kept, *, pinned=None, skip=None, length=None):
        """Return the slack of a level; other names of pinned objects, an object less and another length are possible."""
        pinned = self.pinned_names() if pinned is None else pinned
        blocks = [block for name in pinned for block in self.blocks_of(name, True)]
        numbers = [thing.cells for name, thing in self.objects.items() if name not in pinned and name != skip]
        size = self.values[level]
        clear = self.regions_beside(blocks, level, length or self.length) * size
        return clear - sum(cells - cells % size for cells in numbers + list(kept))

    def short(self, kept, **more):
        """Return the lowest level whose slack is below 0, or None."""
        for level in range(len(self.values)):
            if self.slack(level, kept, **more) < 0:
                return level
        return None

    def largest(self, kept):
        most = [self.slack(level, kept) + size - 1 for level, size in enumerate(self.values)]
        return max(0, min(most))

    def is_at_rest(self):
        slacks = [self.slack(level, ()) for level in range(len(self.values))]
        wanted = [min(slacks[:level + 1]) // size for level, size in enumerate(self.values)]
        return [self.regions_beside(self.blocks(), level, self.length) for level in range(len(self.values))] == wanted

    def owners(self):
        """Return the name and the number of the cell at each address that is not free."""
        found = {}
        for name, thing in self.objects.items():
            cells = [address + at for address, level in zip(thing.addresses, plain.pieces(self.values, thing.cells))
                     for at in range(self.values[level])]
            found.update({cell: (name, index) for index, cell in enumerate(cells)})
        return found

    def stored(self):
        return [(name, index, thing.contents[index]) for name, thing in self.objects.items()
                for index in sorted(thing.contents) if thing.contents[index] != 0]

    def chosen(self, cells, skip=None):
        """Return the addresses that the rule chooses in the memory without one object, or None."""
        if self.is_far:
            return chosen_addresses(plain.build(self.values, self.length, self.blocks(skip)), cells)
        return plain.chosen_addresses(self.values, self.length, self.blocks(skip), cells)

    def is_room(self, cells, moves, addresses, skip=None):
        """Return whether these moves and addresses are room that needs moves, in the memory without one object."""
        if self.is_far:
            return far.is_room(self.values, self.length, self.blocks(skip), plain.pieces(self.values, cells),
                               (moves, addresses))
        return plain.makes_room(self.values, self.length, self.blocks(skip), cells, (moves, addresses))

    def are_disjoint_regions(self):
        return far.are_regions(self.values, self.length, [block[:2] for block in self.blocks()])

    # What each call must raise, as a tuple (error, attributes), or None. All values are of the right kind here.

    def short_error(self, kept, **more):
        level = self.short(kept, **more)
        return None if level is None else (errors.NoRoom, {"level": level})

    def piece_error(self, cells):
        return (errors.TooManyPieces, {"limit": 64}) if piece_count(self.values, cells) > 64 else None

    def name_error(self, name):
        return None if name in self.objects else (errors.UnknownName, {"value": name})

    def pin_error(self, name):
        """Return the error of a call for an object that must exist and must not be pinned."""
        if self.name_error(name) is None and self.objects[name].pins > 0:
            return errors.Pinned, {"name": name}
        return self.name_error(name)

    def request_error(self, name, cells, kept):
        if name in self.objects:
            return errors.NameTaken, {"name": name}
        return self.piece_error(cells) or self.short_error([*kept, cells])

    def resize_error(self, name, cells, kept):
        return self.pin_error(name) or self.piece_error(cells) or self.short_error([*kept, cells], skip=name)

    def length_error(self, length, kept):
        for name in self.pinned_names():
            if any(address + self.values[level] > length for address, level, _ in self.blocks_of(name, True)):
                return errors.Pinned, {"name": name}
        return self.short_error(kept, length=length)

    def one_pin_more_error(self, name, kept):
        return self.name_error(name) or self.short_error(kept, pinned=self.pinned_names() + [name] * (
            name not in self.pinned_names()))

    def unpin_error(self, name):
        if self.name_error(name) is None and self.objects[name].pins == 0:
            return errors.NotPinned, {"name": name}
        return self.name_error(name)

    def index_error(self, name, index):
        if self.name_error(name) is None and not 0 <= index < self.objects[name].cells:
            return errors.InvalidIndex, {"value": index}
        return self.name_error(name)

    def copy_error(self, source, first, target, second, count):
        if self.name_error(source) or self.name_error(target):
            return self.name_error(source) or self.name_error(target)
        have = [self.objects[source].cells - first, self.objects[target].cells - second]
        for value, rest in [(first, have[0]), (second, have[1])]:
            if value < 0 or rest < 0:
                return errors.InvalidIndex, {"value": value}
        return None if 0 <= count <= min(have) else (errors.InvalidCount, {"value": count})

    def reserve_error(self, cells):
        return self.piece_error(cells) or self.short_error(self.kept() + [cells])

    def withdraw_error(self, owner, cells):
        return None if (owner, cells) in self.reservations else (errors.NoReservation, {"owner": owner})

    def requests_error(self, requests):
        """Return the error of several requests at once."""
        names = self.names()
        for name, _ in requests:
            if name in names:
                return errors.NameTaken, {"name": name}
            names.append(name)
        many = [cells for _, cells in requests if self.piece_error(cells)]
        if many:
            return self.piece_error(many[0])
        return self.short_error(self.kept() + [cells for _, cells in requests])

    def pins_in_the_way(self, cells):
        numbers = self.kept() + [cells]
        if self.short(numbers) is None:
            return []
        pinned = self.pinned_names()
        return [name for name in pinned
                if self.short(numbers, pinned=[other for other in pinned if other != name]) is None]

    # What the calls change.

    def copy_cells(self, source, first, target, second, count):
        before = dict(self.objects[source].contents)
        for at in range(count):
            self.objects[target].contents[second + at] = before.get(first + at, 0)

    def resize(self, name, cells, addresses):
        thing = self.objects[name]
        thing.cells = cells
        thing.addresses = list(addresses)
        thing.contents = {index: value for index, value in thing.contents.items() if index < cells}
