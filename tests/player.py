"""A plain interpreter of programs: a task is a Python generator that stops before each of its steps."""

from exactroom.errors import NoRoom


def value_of(expression, variables):
    if isinstance(expression, int):
        return expression
    if isinstance(expression, str):
        return variables.get(expression, 0)
    left, right = value_of(expression[1], variables), value_of(expression[2], variables)
    return {"add": left + right, "sub": left - right, "less": int(left < right), "equal": int(left == right)}[expression[0]]


class Player:
    """The tasks of a machine, played by the words of the document."""

    def __init__(self, shared, programs, start=None):
        self.shared = shared.clone()
        self.outputs = []
        self.refusals = []
        self.variables = {task: dict(start or {}) for task in programs}
        self.status = {}
        self.games = {task: self.play(task, program) for task, program in programs.items()}
        for task in programs:
            self.go_on(task)

    def go_on(self, task):
        """Go to the next step of a task, which does what comes before it."""
        try:
            next(self.games[task])
            self.status[task] = "ready"
        except StopIteration:
            self.status[task] = "ended"
        except Exception as error:
            self.refusals.append((task, type(error).__name__))
            self.status[task] = "failed"

    def play(self, task, body):
        """Go through a body, and stop before each step."""
        variables = self.variables[task]
        for instruction in body:
            yield
            word = instruction[0]
            if word == "if":
                yield from self.play(task, instruction[2] if value_of(instruction[1], variables) else instruction[3])
            elif word == "repeat":
                count = value_of(instruction[1], variables)
                while count > 0 and instruction[2]:
                    yield from self.play(task, instruction[2])
                    count -= 1
            elif word == "attempt":
                try:
                    yield from self.play(task, instruction[1])
                except NoRoom as error:
                    self.refusals.append((task, error.level))
                    variables[instruction[2]] = error.level
                    # The other instructions are not in the attempt any more.
                    other = instruction[3]
                else:
                    other = []
                yield from self.play(task, other)
            else:
                self.do(task, variables, *instruction)

    def do(self, task, variables, word, *parts):
        """Do an instruction that has no bodies."""
        if word == "new":
            self.shared.request(parts[0], value_of(parts[1], variables), owner=task)
        elif word == "drop":
            self.shared.release(parts[0])
        elif word == "resize":
            self.shared.resize(parts[0], value_of(parts[1], variables))
        elif word == "store":
            self.shared.write(parts[0], value_of(parts[1], variables), value_of(parts[2], variables))
        elif word == "load":
            variables[parts[0]] = self.shared.read(parts[1], value_of(parts[2], variables))
        elif word == "set":
            variables[parts[0]] = value_of(parts[1], variables)
        elif word == "out":
            self.outputs.append((task, value_of(parts[0], variables)))
        else:
            self.shared.reserve(task, value_of(parts[0], variables))

    def run(self, limit):
        """Let the ready tasks take steps by turns, and return the number of steps."""
        steps = 0
        while steps < limit and "ready" in self.status.values():
            for task in self.status:
                if self.status[task] == "ready" and steps < limit:
                    self.go_on(task)
                    steps += 1
        return steps
