"""Walks: the order in which the statements of a script are come to, with its trials and tries."""


class Walk:
    """A way through a script. Subclasses tell what is done at a statement, and which failure it leads to.

    A failure is a tuple (address, rule); a rule that no try has the name of goes out of all blocks.
    """

    def __init__(self, script):
        self._script = script
        # The addresses of all statements that were come to, and tuples (address of a try, failure that it caught).
        self._met = []
        self._catches = []

    def walked(self):
        """Goes the way; returns its path."""
        failure = self._through(self._script.body(), ())
        if failure is None:
            failure = self._end()
        return (tuple([caught for _, caught in self._catches]), failure)

    def _through(self, body, ahead):
        """Does the statements of a body, one after another; returns the failure that goes out of it, or None."""
        for at, statement in enumerate(body):
            failure = self._come_to((*ahead, at), statement)
            if failure is not None:
                return failure
        return None

    def _come_to(self, address, statement):
        self._met.append(address)
        if statement[0] not in ("trial", "try"):
            return self._step(address, statement)
        kept = self._keep(address)
        failure = self._through(statement[1], (*address, 0))
        if statement[0] == "trial":
            if failure is None:
                self._undo(address, kept)
            return failure
        if failure is None or failure[1] not in statement[2]:
            return failure
        self._catches.append((address, failure))
        self._undo(address, kept)
        return self._through(statement[3], (*address, 1))

    def addresses_met(self):
        """The list of the addresses of the statements that were come to."""
        return list(self._met)

    def catches(self):
        """The list of the tuples (address of a try, failure) of the failures that were caught, in order."""
        return list(self._catches)

    def _keep(self, address):
        """What is needed to lead back to what is ahead of a block."""
        return address

    def _undo(self, address, kept):
        """Leads back to what was ahead of a block."""

    def _step(self, address, statement):
        """Does a put, change, take or switch; returns a failure or None."""

    def _end(self):
        """What is done behind the last statement; returns a failure or None."""
