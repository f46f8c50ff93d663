"""Promise 6: the post."""

import unittest

from ringpost.errors import NoLetter
from ringpost.posts import Post
from tests.things import no_whole_numbers


def with_posted(bound, many):
    """A post in which so many things were posted."""
    post = Post(bound)
    for k in range(many):
        post.posted(f"t{k}")
    return post


class TestPost(unittest.TestCase):
    def refused(self, post, number):
        before = post.there()
        with self.assertRaises(NoLetter) as caught:
            post.taken(number)
        self.assertIs(caught.exception.__class__, NoLetter)
        self.assertEqual(post.there(), before)

    def test_at_first(self):
        for bound in [0, 1, 20]:
            self.assertEqual(Post(bound).there(), [])
            self.refused(Post(bound), 0)
            self.refused(Post(bound), -1)

    def test_numbers_from_0(self):
        for bound in [0, 1, 3, 20]:
            post = Post(bound)
            numbers = [post.posted("t") for _ in range(50)]
            self.assertEqual(numbers, list(range(50)))
            self.assertEqual({type(number) for number in numbers}, {int})

    def test_a_bound_of_0(self):
        post = Post(0)
        for k in range(5):
            post.posted(f"t{k}")
            self.assertEqual(post.there(), [k])
            self.assertEqual(post.taken(k), f"t{k}")
            self.refused(post, k - 1)
            self.refused(post, k + 1)

    def test_a_bound_of_2(self):
        told = []
        post = Post(2)
        for k in range(6):
            post.posted(f"t{k}")
            told.append(post.there())
        self.assertEqual(told, [[0], [0, 1], [0, 1, 2], [1, 2, 3], [2, 3, 4], [3, 4, 5]])

    def test_each_bound_and_number(self):
        for bound in range(8):
            for many in range(15):
                self.each_number(bound, many)

    def each_number(self, bound, many):
        post = with_posted(bound, many)
        there = [k for k in range(many) if many - 1 - k <= bound]
        self.assertEqual(post.there(), there)
        for k in range(-3, many + 3):
            if k in there:
                self.assertEqual(post.taken(k), f"t{k}")
            else:
                self.refused(post, k)

    def test_a_great_bound(self):
        post = with_posted(10 ** 5000, 300)
        self.assertEqual(post.there(), list(range(300)))
        self.assertEqual(post.taken(0), "t0")
        self.assertEqual(with_posted(20, 300).there(), list(range(279, 300)))

    def test_the_same_again_and_again(self):
        post = with_posted(2, 5)
        for _ in range(10):
            for k in [4, 2, 3, 2]:
                self.assertEqual(post.taken(k), f"t{k}")
        self.assertEqual(post.there(), [2, 3, 4])

    def test_what_is_taken_is_not_kept_longer(self):
        post = with_posted(1, 2)
        post.taken(0)
        post.taken(0)
        post.posted("t2")
        self.refused(post, 0)
        self.assertEqual(post.there(), [1, 2])

    def test_things_of_each_kind(self):
        things = [0, 7, -1, 10 ** 30, "", "a", (), (1, "a"), (0, ""), ("a", 1, "b"), ((1, 2), "a")]
        post = Post(20)
        for k, thing in enumerate(things):
            self.assertEqual(post.posted(thing), k)
        for k, thing in enumerate(things):
            self.assertEqual(post.taken(k), thing)
            self.assertIs(type(post.taken(k)), type(thing))

    def test_things_that_are_alike_have_their_own_numbers(self):
        post = Post(3)
        self.assertEqual([post.posted((1, "a")) for _ in range(3)], [0, 1, 2])
        self.assertEqual(post.there(), [0, 1, 2])

    def test_what_is_no_number(self):
        for many in [0, 1, 2, 5]:
            post = with_posted(3, many)
            for which, thing in enumerate(no_whole_numbers()):
                with self.subTest(many=many, which=which):
                    self.refused(post, thing)

    def test_numbers_that_are_far_away(self):
        post = with_posted(3, 5)
        for number in [-1, -2, -5, 5, 6, 10 ** 5000, -10 ** 5000, 2 ** 64]:
            self.refused(post, number)

    def test_a_refusal_changes_nothing(self):
        post = with_posted(1, 3)
        for number in [0, 3, -1, True, None, "1"]:
            self.refused(post, number)
        self.assertEqual(post.posted("t3"), 3)
        self.assertEqual(post.there(), [2, 3])
        self.assertEqual([post.taken(2), post.taken(3)], ["t2", "t3"])

    def test_what_was_told_is_the_askers_own(self):
        post = with_posted(2, 3)
        told = post.there()
        post.posted("t3")
        self.assertEqual(told, [0, 1, 2])
        post.there().append(9)
        post.there().clear()
        self.assertEqual(post.there(), [1, 2, 3])
        self.refused(post, 9)

    def test_an_empty_list_that_was_told_is_the_askers_own(self):
        post = Post(2)
        post.there().append(0)
        self.assertEqual(post.there(), [])
        self.refused(post, 0)

    def test_two_posts_do_not_touch(self):
        one, other = Post(2), Post(2)
        one.posted("a")
        one.posted("b")
        self.assertEqual(other.there(), [])
        self.refused(other, 0)
        self.assertEqual(other.posted("c"), 0)
        self.assertEqual(one.taken(0), "a")
        self.assertEqual(other.taken(0), "c")
        self.assertEqual(one.there(), [0, 1])


if __name__ == "__main__":
    unittest.main()
