"""The text of a shared memory, without addresses and pins."""

from exactroom.errors import InvalidIndex, InvalidName, InvalidNumber, InvalidText, NameTaken, NoRoom, TooManyPieces
from exactroom.shared import Shared
from exactroom.sizes import Sizes, is_cells, read_integer


def dump_shared(shared):
    """Return the text of a shared memory."""
    sizes = " ".join([str(size) for size in shared.sizes.all_sizes()])
    lines = [f"sizes {sizes}", f"length {shared.capacity}"]
    cells = {name: [] for name in shared.names()}
    for name, index, value in shared.stored():
        cells[name].append(f"cell {index} {value}")
    for name in cells:
        lines += [f"object {name} {shared.cells(name)}", *cells[name]]
    lines += [f"reserve {owner} {number}" for owner, number in shared.reservations()]
    return "".join([f"{line}\n" for line in lines])


class Loader:
    """What the first lines of a text say."""

    def __init__(self):
        # The sizes and the shared memory are None until their lines were taken.
        self.size_table = None
        self.target = None
        # The last object, and the number of its last cell that was told.
        self.last_name = None
        self.last_index = -1

    def take(self, line):
        """Take the next line, and return whether a text can begin with the lines so far."""
        word, *parts = line.split(" ")
        if self.size_table is None:
            return word == "sizes" and self.take_sizes(" ".join(parts))
        if self.target is None:
            return word == "length" and self.take_length(parts)
        if len(parts) != 2:
            return False
        if word == "reserve":
            return self.take_reservation(parts[0], read_integer(parts[1]))
        # Objects and cells stand before all reservations.
        if len(self.target.reservations()) > 0:
            return False
        if word == "object":
            return self.take_object(parts[0], read_integer(parts[1]))
        return word == "cell" and self.take_cell(read_integer(parts[0]), read_integer(parts[1]))

    def take_sizes(self, text):
        """Take the sizes, and return whether they are right."""
        try:
            self.size_table = Sizes.from_text(text)
        except InvalidText:
            return False
        return True

    def take_length(self, parts):
        """Take the length, and return whether it is right."""
        if len(parts) != 1 or not is_cells(read_integer(parts[0])):
            return False
        self.target = Shared(self.size_table, read_integer(parts[0]))
        return True

    def take_object(self, name, cells):
        """Request an object, and return whether that was possible."""
        try:
            self.target.request(name, cells)
        except (InvalidName, NameTaken, InvalidNumber, TooManyPieces, NoRoom):
            return False
        self.last_name = name
        self.last_index = -1
        return True

    def take_cell(self, index, value):
        """Write into a cell of the last object, and return whether that was right."""
        if self.last_name is None or index is None or index <= self.last_index or value is None or value == 0:
            return False
        try:
            self.target.write(self.last_name, index, value)
        except InvalidIndex:
            return False
        self.last_index = index
        return True

    def take_reservation(self, owner, cells):
        """Reserve a number of cells, and return whether that was possible."""
        try:
            self.target.reserve(owner, cells)
        except (InvalidName, InvalidNumber, TooManyPieces, NoRoom):
            return False
        return True


def load_shared(text):
    """Return the shared memory with this text."""
    if not isinstance(text, str):
        raise InvalidText(0)
    *lines, rest = text.split("\n")
    loader = Loader()
    for number, line in enumerate(lines, start=1):
        if not loader.take(line):
            raise InvalidText(number)
    # Either the last line has no line feed, or a line is missing.
    if rest != "" or loader.target is None:
        raise InvalidText(len(lines) + 1)
    return loader.target
