"""Tasks: where they are in their programs, and their variables."""


class Frame:
    """A body that a task is in."""

    def __init__(self, body, rounds, rescue):
        self.body = body
        # The index of the next instruction, and how many times the body is gone through, this time included.
        self.next_at = 0
        self.rounds = rounds
        # Of an attempt: the variable for the level, and the other instructions. Otherwise None.
        self.rescue = rescue

    def clone(self):
        """Return an independent copy; bodies are never changed."""
        twin = Frame(self.body, self.rounds, self.rescue)
        twin.next_at = self.next_at
        return twin


class Task:
    """A task that goes through a program."""

    def __init__(self, program, start):
        # The variables in the sequence of their first assignment.
        self.assigned = dict(start)
        self.has_failed = False
        # The bodies that the task is in, the innermost one last; a task without any has ended.
        self.frames = []
        self.enter(program, 1, None)

    def clone(self):
        """Return an independent copy."""
        twin = Task([], self.assigned)
        twin.has_failed = self.has_failed
        twin.frames = [frame.clone() for frame in self.frames]
        return twin

    def is_ready(self):
        """Return whether the task can take a step."""
        return len(self.frames) > 0 and not self.has_failed

    def enter(self, body, rounds, rescue):
        """Continue with a body, so many times; an empty one is left out."""
        if body and rounds >= 1:
            self.frames.append(Frame(body, rounds, rescue))

    def take_next(self):
        """Return the next instruction, and go behind it."""
        frame = self.frames[-1]
        frame.next_at += 1
        return frame.body[frame.next_at - 1]

    def leave_ended(self):
        """Begin the innermost body once more if it has ended, or leave it, and so on."""
        while self.frames and self.frames[-1].next_at == len(self.frames[-1].body):
            frame = self.frames[-1]
            frame.next_at = 0
            frame.rounds -= 1
            if frame.rounds == 0:
                self.frames.pop()

    def give_up(self, level):
        """Leave the innermost attempt with this level, or fail if there is none."""
        while self.frames:
            frame = self.frames.pop()
            if frame.rescue is not None:
                variable, other = frame.rescue
                self.assigned[variable] = level
                self.enter(other, 1, None)
                return
        self.has_failed = True
