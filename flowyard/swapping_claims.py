"""Claims about stations that are swapped: when they are true, and which papers show it."""

from flowyard.errors import TooMany
from flowyard.swaps import is_break, is_kept, is_kept_paper, kept_paper, least_break
from flowyard.yards import Station, Yard

_MANY_PARTS = 5


class SwappingClaims:
    """The methods are those of the other claims; there is one line of the table alone."""

    def are_parts(self, _, parts):
        return len(parts) == _MANY_PARTS and isinstance(parts[0], Yard) and isinstance(parts[2], Station)

    def is_first_true(self, _, parts):
        return is_kept(*parts)

    def first_paper(self, _, parts):
        return kept_paper(*parts)

    def second_paper(self, _, parts):
        return least_break(*parts)

    def is_first_paper(self, _, parts, value):
        return is_kept_paper(*parts, value)

    def is_second_paper(self, _, parts, value):
        # What has too many beats to be judged is no paper: nothing else is raised for any value.
        try:
            return is_break(*parts, value)
        except TooMany:
            return False
