"""Many calls of a memory or a shared memory in a row, each one checked against the plain model."""

from exactroom.errors import InvalidAddress
from exactroom.memory import Memory
from exactroom.shared import Shared
from exactroom.sizes import Sizes
from tests.model import Model, Thing

NAMES = list("abcdefghijklmnopqrstuvwxy") + ["zz", "zoe", "zzzzzzzz"]
OWNERS = ["ann", "bo", "a"]
TRILLION = 10 ** 12


class Walk:
    """A memory, with reservations or without, and its model; the case checks them against each other."""

    def __init__(self, case, values, length, shared=False):
        self.case = case
        self.values = values
        self.is_shared = shared
        self.memory = (Shared if shared else Memory)(Sizes(values), length)
        self.model = Model(values, length)
        # How often calls of each kind were granted with and without moves, and refused with each error.
        self.seen = {}

    def count(self, *what):
        self.seen[what] = self.seen.get(what, 0) + 1

    def kept_by(self, kept):
        """Return the kept numbers that count for a call, and how they are passed to it."""
        return (self.model.kept(), {}) if self.is_shared else (list(kept), {"kept": kept})

    def attempt(self, error, word, *parts, **more):
        """Call a method that must raise this error, or return its result if there is none."""
        call = getattr(self.memory, word)
        if error is None:
            result = call(*parts, **more)
            self.count(word, "moves" if isinstance(result, list) and result else "granted")
            return result
        self.case.refused(*error, call, *parts, **more)
        self.count(word, error[0].__name__)
        self.check()
        return None

    def follow(self, told):
        """Take over told moves into the model, and return them without the names."""
        self.case.assertIs(type(told), list)
        moves = []
        for name, piece, old, new in told:
            self.case.same((name in self.model.objects, type(piece), type(new)), (True, int, int))
            self.case.same(self.model.objects[name].addresses[piece], old)
            moves.append((old, new))
        self.case.assertEqual(moves, sorted(moves))
        self.case.assertTrue(all(type(move) is tuple for move in told))
        for name, piece, _, new in told:
            self.model.objects[name].addresses[piece] = new
        return moves

    def check_room(self, cells, told, addresses, skip=None):
        """Check what was moved for an object with so many cells, and where it lies now."""
        chosen = self.model.chosen(cells, skip)
        if chosen is not None:
            self.case.same((told, addresses), ([], chosen))
        else:
            moves = [(old, new) for _, _, old, new in told]
            self.case.assertTrue(moves)
            self.case.assertTrue(self.model.is_room(cells, moves, addresses, skip))
        self.follow(told)

    def request(self, name, cells, kept=(), owner=""):
        kept, more = self.kept_by(kept)
        uses = (owner, cells) in self.model.reservations
        if uses:
            kept.remove(cells)
        if self.is_shared and owner:
            more = {"owner": owner}
        error = self.model.request_error(name, cells, kept)
        if uses:
            self.case.assertNotIn("level", error[1] if error else {})
        was_at_rest = self.model.is_at_rest()
        told = self.attempt(error, "request", name, cells, **more)
        if error is None:
            addresses = self.memory.addresses(name)
            self.check_room(cells, told, addresses)
            self.model.objects[name] = Thing(cells, addresses)
            if uses:
                self.model.reservations.remove((owner, cells))
                self.count("used")
            if was_at_rest:
                self.count("request at rest")
                self.case.same((told, self.memory.is_at_rest(), self.model.is_at_rest()), ([], True, True))
            self.check()

    def request_all(self, requests):
        error = self.model.requests_error(requests)
        passed = list(requests)
        results = self.attempt(error, "request_all", passed)
        self.case.assertEqual(passed, requests)
        if error is None:
            self.case.assertEqual((type(results), len(results)), (list, len(requests)))
            placed = self.places_when_requested(requests, results)
            for (name, cells), told, addresses in zip(requests, results, placed):
                self.check_room(cells, told, addresses)
                self.model.objects[name] = Thing(cells, addresses)
            self.check()

    def places_when_requested(self, requests, results):
        """Return where each requested object was at first: later ones may have moved it since."""
        places = {name: self.memory.addresses(name) for name, _ in requests}
        placed = []
        for (requested, _), told in reversed(list(zip(requests, results))):
            placed.insert(0, list(places.pop(requested)))
            for name, piece, old, new in told:
                if name in places:
                    self.case.assertEqual(places[name][piece], new)
                    places[name][piece] = old
        return placed

    def release(self, name):
        error = self.model.pin_error(name)
        result = self.attempt(error, "release", name)
        if error is None:
            self.case.assertIsNone(result)
            del self.model.objects[name]
            self.check()

    def resize(self, name, cells, kept=()):
        kept, more = self.kept_by(kept)
        error = self.model.resize_error(name, cells, kept)
        if error and "level" in error[1] and self.model.short(kept) is None:
            # Fewer cells always fit if the kept numbers do.
            self.case.assertTrue(cells > self.model.objects[name].cells)
        told = self.attempt(error, "resize", name, cells, **more)
        if error is None:
            addresses = self.memory.addresses(name)
            if cells == self.model.objects[name].cells:
                self.case.same((told, addresses), ([], self.model.objects[name].addresses))
            else:
                self.check_room(cells, told, addresses, skip=name)
                self.model.resize(name, cells, addresses)
            self.check()

    def set_length(self, length, kept=()):
        kept, more = self.kept_by(kept)
        error = self.model.length_error(length, kept)
        told = self.attempt(error, "set_length", length, **more)
        if error is None:
            if all(address + self.values[level] <= length for address, level, _ in self.model.blocks()):
                self.case.same(told, [])
            self.check_moves(told)
            self.model.length = length
            self.check()

    def check_moves(self, told):
        """Check that told moves are a rearrangement, and take them over."""
        self.case.assertTrue(all(self.model.objects[name].pins == 0 for name, _, _, _ in told))
        self.case.assertTrue(all(old != new for _, _, old, new in told))
        self.case.assertEqual(len({old for _, _, old, _ in told}), len(told))
        self.follow(told)
        self.case.assertTrue(self.model.are_disjoint_regions())

    def settle(self):
        was_at_rest = self.model.is_at_rest()
        told = self.attempt(None, "settle")
        if was_at_rest:
            self.case.same(told, [])
        self.check_moves(told)
        self.case.same((self.memory.is_at_rest(), self.model.is_at_rest()), (True, True))
        self.check()

    def pin(self, name, kept=()):
        kept, more = self.kept_by(kept)
        error = self.model.one_pin_more_error(name, kept)
        was_at_rest = self.model.is_at_rest()
        result = self.attempt(error, "pin", name, **more)
        if error is None:
            self.model.objects[name].pins += 1
            self.case.same(result, self.model.objects[name].pins)
            if was_at_rest:
                self.case.same((self.memory.is_at_rest(), self.model.is_at_rest()), (True, True))
            self.check()

    def unpin(self, name):
        error = self.model.unpin_error(name)
        result = self.attempt(error, "unpin", name)
        if error is None:
            self.model.objects[name].pins -= 1
            self.case.same(result, self.model.objects[name].pins)
            self.check()

    def write(self, name, index, value):
        error = self.model.index_error(name, index)
        result = self.attempt(error, "write", name, index, value)
        if error is None:
            self.case.assertIsNone(result)
            self.model.objects[name].contents[index] = value
            self.check()

    def look(self, name, index):
        """Read a cell, and ask for its address."""
        error = self.model.index_error(name, index)
        value = self.attempt(error, "read", name, index)
        address = self.attempt(error, "address_of", name, index)
        if error is None:
            self.case.same(value, self.model.objects[name].contents.get(index, 0))
            self.case.same(self.memory.owner_of(address), (name, index))

    def copy_cells(self, *parts):
        error = self.model.copy_error(*parts)
        result = self.attempt(error, "copy_cells", *parts)
        if error is None:
            self.case.assertIsNone(result)
            self.model.copy_cells(*parts)
            self.check()

    def reserve(self, owner, cells):
        error = self.model.reserve_error(cells)
        result = self.attempt(error, "reserve", owner, cells)
        if error is None:
            self.case.assertIsNone(result)
            self.model.reservations.append((owner, cells))
            self.check()

    def withdraw(self, owner, cells):
        error = self.model.withdraw_error(owner, cells)
        result = self.attempt(error, "withdraw", owner, cells)
        if error is None:
            self.case.assertIsNone(result)
            self.model.reservations.remove((owner, cells))
            self.check()

    # What must hold after each call.

    def check(self):
        case, memory, model = self.case, self.memory, self.model
        rows = [(name, thing.cells) for name, thing in model.objects.items()]
        case.same((memory.names(), len(memory), memory.capacity), (model.names(), len(rows), model.length))
        found = [(memory.cells(name), memory.addresses(name), memory.pins(name)) for name in model.objects]
        case.same(found, [(thing.cells, thing.addresses, thing.pins) for thing in model.objects.values()])
        case.assertTrue(model.are_disjoint_regions())
        case.same(memory.layout().blocks(), model.blocks())
        case.same((memory.layout().length, memory.layout().free),
                  (model.length, model.length - sum(cells for _, cells in rows)))
        case.same(list(memory.stored()), model.stored())
        case.same(memory.is_at_rest(), model.is_at_rest())
        kept = []
        if self.is_shared:
            kept = model.kept()
            case.same((memory.kept, memory.reservations()), (kept, model.reservations))
            case.assertEqual(repr(memory), f"Shared({model.length}, {rows!r}, {model.reservations!r})")
            case.assertIsNone(model.short(kept))
        else:
            case.assertEqual(repr(memory), f"Memory({model.length}, {rows!r})")
        case.same([memory.slack(level) for level in range(len(self.values))],
                  [model.slack(level, kept) for level in range(len(self.values))])
        case.same(memory.largest(), model.largest(kept))

    def check_cells(self):
        """Check each cell of a small memory, and each address."""
        owners = self.model.owners()
        self.case.same([self.memory.owner_of(address) for address in range(self.model.length)],
                       [owners.get(address) for address in range(self.model.length)])
        for address, (name, index) in owners.items():
            self.case.same(self.memory.address_of(name, index), address)
            self.case.same(self.memory.read(name, index), self.model.objects[name].contents.get(index, 0))
        for address in [-1, self.model.length, self.model.length + 1]:
            self.case.refused_value(InvalidAddress, address, self.memory.owner_of, address)


def random_cells(source, walk, length):
    """Return a number of cells, rather a small one, or one with few pieces."""
    if walk.model.is_far and source.random() < 0.9:
        return sum(source.choice(walk.values) for _ in range(source.randrange(1, 6)))
    return min(TRILLION, source.choice([1, 1, 2, 3, source.randrange(1, 8), source.randrange(1, length // 3 + 2),
                                        source.randrange(1, length + 3)]))


def random_kept(source, length):
    kept = [source.randrange(1, length // 4 + 2) for _ in range(source.choice([0, 0, 0, 1, 2]))]
    return source.choice([kept, tuple(kept)])


def random_place(source, walk):
    """Return the name of an object and the number of one of its cells, both sometimes wrong."""
    name = source.choice(NAMES)
    if source.random() < 0.8 and walk.model.objects:
        name = source.choice(walk.model.names())
    cells = walk.model.objects[name].cells if name in walk.model.objects else 3
    index = source.randrange(cells) if source.random() < 0.9 else source.choice([-1, cells, cells + 1])
    return name, index


def new_name(source, walk):
    """Return a name that an object has only sometimes."""
    unused = [name for name in NAMES if name not in walk.model.objects]
    return source.choice(unused if unused and source.random() < 0.9 else NAMES)


def scatter(source, walk):
    """Fill the memory with small objects, and release some of them, so that what is free lies scattered."""
    for owner, cells in walk.model.reservations[::2]:
        walk.withdraw(owner, cells)
    small = [1, 1, 1, walk.values[min(1, len(walk.values) - 1)]]
    if walk.model.is_far:
        small = walk.values[-2:-1] or [1]
    for _ in range(source.randrange(4, 25)):
        walk.request(new_name(source, walk), source.choice(small))
    for name in walk.model.names():
        if source.random() < 0.5:
            walk.release(name)
    # What is asked for now often needs moves.
    for _ in range(2):
        cells = max(1, walk.memory.largest() - source.choice([0, 0, 1, walk.memory.largest() // 2]))
        step = source.choice(["request", "resize", "reserve" if walk.is_shared else "request"])
        if step == "request":
            walk.request(new_name(source, walk), cells)
        elif step == "resize":
            walk.resize(source.choice(walk.model.names() or NAMES), cells)
        else:
            # Whole regions of a level leave no room for pins that spoil one.
            walk.reserve(source.choice(OWNERS), max(1, cells - cells % source.choice(walk.values)))
            for name in walk.model.names():
                walk.pin(name)
            for name in walk.model.pinned_names():
                walk.unpin(name)


def random_length(source, walk, length):
    """Return a new length: often the number of cells that are needed, or the old one, or a few cells off."""
    ends = [address + walk.values[level] for address, level, _ in walk.model.blocks()] or [1]
    around = source.choice([length, length, max(ends), walk.model.length, sum(
        thing.cells for thing in walk.model.objects.values())])
    return min(TRILLION, max(1, around + source.choice([0, 0, -1, 1, -2, 3])))


def random_copy(source, walk):
    (giver, first), (taker, second) = random_place(source, walk), random_place(source, walk)
    if source.random() < 0.4:
        taker = giver
    have = [walk.model.objects[name].cells if name in walk.model.objects else 2 for name in (giver, taker)]
    most = max(0, min(have[0] - first, have[1] - second))
    if most > 1000:
        # The model goes from cell to cell.
        return giver, first, taker, second, source.randrange(100)
    count = source.choice([0, most, most // 2, min(2, most), most + 1 if source.random() < 0.2 else most])
    return giver, first, taker, second, count


def random_step(source, walk, length):
    """Make one call of any kind, with a length of about this much."""
    name, index = random_place(source, walk)
    cells, kept = random_cells(source, walk, length), random_kept(source, length)
    steps = ["request"] * 6 + ["release"] * 4 + ["resize"] * 3 + ["write"] * 2 + ["look", "copy", "pin", "unpin",
                                                                                  "settle", "length"]
    if walk.is_shared:
        steps += ["reserve"] * 2 + ["withdraw", "request for an owner", "use", "use", "request_all"]
    step = source.choice(steps)
    if step == "request":
        walk.request(new_name(source, walk), cells, kept)
    elif step == "release":
        walk.release(name)
    elif step == "resize":
        had = walk.model.objects[name].cells if name in walk.model.objects else 1
        walk.resize(name, source.choice([cells, cells, had, max(1, had - 1), had + 1]), kept)
    elif step == "write":
        walk.write(name, index, source.choice([0, 1, -7, 10 ** 39, -(10 ** 39), source.randrange(-99, 99)]))
    elif step == "look":
        walk.look(name, index)
    elif step == "copy":
        walk.copy_cells(*random_copy(source, walk))
    elif step == "pin":
        walk.pin(name, kept)
    elif step == "unpin":
        walk.unpin(source.choice(walk.model.pinned_names() + [name]))
    elif step == "settle":
        walk.settle()
    elif step == "length":
        walk.set_length(random_length(source, walk, length), kept)
    else:
        shared_step(source, walk, length, step, cells)


def shared_step(source, walk, length, step, cells):
    """Make one call that only a shared memory has."""
    owner = source.choice(OWNERS)
    if step == "reserve":
        walk.reserve(owner, cells)
    elif step == "withdraw":
        walk.withdraw(*source.choice(walk.model.reservations + [(owner, cells)]))
    elif step == "request for an owner":
        walk.request(new_name(source, walk), cells, owner=owner)
    elif step == "use":
        owner, cells = source.choice(walk.model.reservations + [(owner, cells)])
        walk.request(new_name(source, walk), cells, owner=owner)
    else:
        walk.request_all([(new_name(source, walk), random_cells(source, walk, length // 2))
                          for _ in range(source.randrange(0, 4))])
