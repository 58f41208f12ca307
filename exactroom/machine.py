"""Machines: tasks that go through their programs by turns, with a shared memory in common."""

from exactroom.errors import InvalidCount, InvalidIndex, InvalidName, InvalidNumber, InvalidProgram, InvalidValue
from exactroom.errors import NameTaken, NoRoom, NotReady, Pinned, TooManyPieces, UnknownName, UnknownTask
from exactroom.programs import copy_of, first_problem, value_of
from exactroom.sizes import is_integer, is_name
from exactroom.tasks import Task


def check_programs(programs):
    """Raise InvalidProgram if the value is no dict of names with programs."""
    if not isinstance(programs, dict) or len(programs) == 0:
        raise InvalidProgram("", ())
    for task, program in programs.items():
        if not is_name(task):
            raise InvalidProgram("", ())
        path = first_problem(program)
        if path is not None:
            raise InvalidProgram(task, path)


def check_start(start):
    """Raise InvalidName or InvalidValue if these are no starting variables."""
    for name, value in start.items():
        if not is_name(name):
            raise InvalidName(name)
        if not is_integer(value):
            raise InvalidValue(value)


class Machine:
    """A shared memory, and tasks with programs."""

    READY = "ready"
    ENDED = "ended"
    FAILED = "failed"

    # Any name may be that of a starting variable, also "self"; so the machine is called otherwise here.
    def __init__(this_machine, shared, programs, **start):
        check_programs(programs)
        check_start(start)
        this_machine.begin(shared, programs, start)

    def begin(self, shared, programs, start):
        """Take over a copy of the shared memory, and put each task before its first instruction."""
        self.memory = shared.clone()
        self.program_table = {task: copy_of(programs[task]) for task in programs}
        self.task_table = {task: Task(program, start) for task, program in self.program_table.items()}
        self.output_rows = []

    def clone(self):
        """Return an independent copy."""
        twin = Machine(self.memory, self.program_table)
        twin.task_table = {task: self.task_table[task].clone() for task in self.task_table}
        twin.output_rows = list(self.output_rows)
        return twin

    def known(self, task):
        """Return the state of the task with this name, which may be any value."""
        if not is_name(task) or task not in self.task_table:
            raise UnknownTask(task)
        return self.task_table[task]

    def tasks(self):
        """Return the names of the tasks, in sequence."""
        return list(self.task_table)

    def status(self, task):
        """Return whether a task is ready, has ended or has failed."""
        state = self.known(task)
        if state.has_failed:
            return self.FAILED
        return self.READY if state.is_ready() else self.ENDED

    def variables(self, task):
        """Return the variables of a task, in the sequence of their first assignment."""
        return dict(self.known(task).assigned)

    def outputs(self):
        """Return all outputs so far, as tuples (task, value)."""
        return list(self.output_rows)

    def shared(self):
        """Return an independent copy of the shared memory."""
        return self.memory.clone()

    def settle(self):
        """Settle the shared memory."""
        self.memory.settle()

    def step(self, task):
        """Let a task take a step, and return its status afterwards."""
        state = self.known(task)
        if not state.is_ready():
            raise NotReady(task)
        instruction = state.take_next()
        try:
            self.carry_out(task, instruction)
        except NoRoom as refusal:
            state.give_up(refusal.level)
        except (InvalidNumber, TooManyPieces, NameTaken, UnknownName, Pinned, InvalidIndex):
            state.has_failed = True
        state.leave_ended()
        return self.status(task)

    def run(self, *, limit=200):
        """Let the tasks that are ready take steps by turns, at most so many, and return the number of steps."""
        if not is_integer(limit) or limit < 0:
            raise InvalidCount(limit)
        steps = 0
        turns = []
        while steps < limit:
            turns = turns or [task for task in self.task_table if self.task_table[task].is_ready()]
            if not turns:
                break
            self.step(turns.pop(0))
            steps += 1
        return steps

    def carry_out(self, task, instruction):
        """Execute an instruction of a task."""
        if instruction[0] in ("if", "repeat", "attempt"):
            self.branch(self.task_table[task], instruction)
        elif instruction[0] in ("set", "load", "out"):
            self.tell(task, instruction)
        else:
            self.change(task, instruction)

    def branch(self, state, instruction):
        """Continue with a body of an instruction."""
        word, *parts = instruction
        if word == "attempt":
            body, variable, other = parts
            state.enter(body, 1, (variable, other))
            return
        value = value_of(parts[0], state.assigned)
        if word == "repeat":
            state.enter(parts[1], value, None)
        else:
            state.enter(parts[1] if value != 0 else parts[2], 1, None)

    def tell(self, task, instruction):
        """Execute an instruction that changes variables or tells a value."""
        variables = self.task_table[task].assigned
        word, *parts = instruction
        value = value_of(parts[-1], variables)
        if word == "set":
            variables[parts[0]] = value
        elif word == "load":
            variables[parts[0]] = self.memory.read(parts[1], value)
        else:
            self.output_rows.append((task, value))

    def change(self, task, instruction):
        """Execute an instruction that changes the shared memory."""
        variables = self.task_table[task].assigned
        word, *parts = instruction
        if word == "drop":
            self.memory.release(parts[0])
            return
        value = value_of(parts[-1], variables)
        if word == "new":
            self.memory.request(parts[0], value, owner=task)
        elif word == "resize":
            self.memory.resize(parts[0], value)
        elif word == "store":
            self.memory.write(parts[0], value_of(parts[1], variables), value)
        else:
            self.memory.reserve(task, value)
