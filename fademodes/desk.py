"""A desk: programs with names and states, and commands that are kept in a log and can be taken back."""

from fademodes.claims import is_count
from fademodes.commands import parsed, performed
from fademodes.errors import InvalidCommand, InvalidCount, NothingToUndo, TooMany
from fademodes.kinds import is_list

MOST_COMMANDS = 300


class Desk:
    """Programs with a state for each, and the log of the commands that can be taken back."""

    def __init__(self):
        self._shelf = {}
        self._entries = []
        self._greatest = MOST_COMMANDS

    def do(self, command):
        """Perform a command, and return its answer."""
        return self.do_all([command])[0]

    def do_all(self, commands):
        """Perform commands, all or none, and return the list of the answers."""
        answers, self._shelf, self._entries = self._behind(commands)
        return answers

    def tried(self, commands):
        """Return the list of the answers to commands, without performing them."""
        return self._behind(commands)[0]

    def _behind(self, commands):
        """Return the answers to commands, and what the shelf and the log would be behind them."""
        if not is_list(commands):
            raise InvalidCommand(commands)
        shelf, entries = dict(self._shelf), list(self._entries)
        answers = []
        for command in commands:
            told = parsed(command)
            if told is None:
                raise InvalidCommand(command)
            kind, name, rest = told
            answer, kept = performed(shelf, kind, name, rest)
            if kept is not None:
                if len(entries) >= self._greatest:
                    raise TooMany("log", self._greatest)
                entries.append((command, name, shelf.get(name)))
                shelf[name] = kept
            answers.append(answer)
        return answers, shelf, entries

    def undo(self):
        """Take back the last command of the log."""
        if not self._entries:
            raise NothingToUndo()
        _, name, before = self._entries.pop()
        if before is None:
            del self._shelf[name]
        else:
            self._shelf[name] = before

    def log(self):
        """Return the list of the commands that can be taken back."""
        return [command for command, _, _ in self._entries]

    def names(self):
        """Return the sorted list of the names of the programs."""
        return sorted(self._shelf)

    @property
    def most(self):
        """The greatest number of commands that the log may have."""
        return self._greatest

    @most.setter
    def most(self, value):
        self.set_most(value)

    def set_most(self, most):
        """Set the greatest number of commands that the log may have."""
        if not is_count(most):
            raise InvalidCount(most)
        self._greatest = most

    def __eq__(self, other):
        if not isinstance(other, Desk):
            return False
        return self._shelf == other._shelf and self._entries == other._entries and self._greatest == other._greatest
