"""A post that keeps what is posted for as long as its bound lets it."""

from ringpost.bounds import is_whole
from ringpost.errors import NoLetter


class Post:
    """What is posted, numbered from 0, as far as it is there."""

    def __init__(self, bound):
        self._bound = bound
        self._many = 0
        self._things = {}

    def posted(self, thing):
        """Posts a thing: its number."""
        number = self._many
        self._things[number] = thing
        self._many = number + 1
        # The newest has none behind it, so this one now has one too many.
        self._things.pop(number - self._bound - 1, None)
        return number

    def there(self):
        """The numbers of those that are there, rising."""
        return sorted(self._things)

    def taken(self, number):
        """The thing of that number, which stays there."""
        if not is_whole(number) or number not in self._things:
            raise NoLetter("nothing of this number is there")
        return self._things[number]

    def copied(self):
        """Another post in which the same is there."""
        other = Post(self._bound)
        other._many = self._many
        other._things = dict(self._things)
        return other
