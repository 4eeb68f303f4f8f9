import importlib
import inspect
import unittest

WANTED = {
    "neverbelow.numbers": (
        "number(top, bottom)", "plus(one, other)", "minus(one, other)", "times(one, other)", "over(one, other)",
        "less(one, other)", "sign(one)",
    ),
    "neverbelow.curves": (
        "curve_of(numbers)", "worth(curve, x)", "added(one, other)", "taken(one, other)", "multiplied(one, other)",
        "scaled(curve, k)", "slope(curve)", "moved(curve, c)", "stretched(curve, k)", "divided(curve, by)",
    ),
    "neverbelow.common": ("common(one, other)", "plain(curve)", "split(curve)"),
    "neverbelow.mixes": (
        "mixed(curve, low, high, degree)", "unmixed(numbers, low, high)", "worth_at(numbers, t)", "cut(numbers, t)",
        "raised(numbers)", "sign_of(numbers)",
    ),
    "neverbelow.maps": (
        "map_of(curve, low, high)", "holds(curve, low, high, rows)", "narrowed(curve, start, end)",
        "near_to(curve, start, end, width)",
    ),
    "neverbelow.verdicts": ("verdict(curve, low, high)", "shown(curve, low, high, told)"),
    "neverbelow.squares": ("squares(curve)", "are_squares(curve, some)", "always(curve)", "bound(curve)"),
    "neverbelow.extremes": ("least(curve, low, high, near)", "greatest(curve, low, high, near)"),
    "neverbelow.crossings": ("meetings(one, other, low, high)", "sides(one, other, low, high)"),
    "neverbelow.pieces": (
        "row_of(pieces)", "row_worth(row, x)", "smoothness(row)", "is_joined(row)", "row_verdict(row)",
        "row_least(row, near)", "rows_added(one, other)", "rows_multiplied(one, other)", "row_moved(row, c)",
        "row_stretched(row, k)", "plainest(row)",
    ),
    "neverbelow.texts": ("show_number(one)", "show_curve(curve)", "read_number(text)", "read_curve(text)"),
    "neverbelow.desk": ("Desk()",),
}


class InterfaceTest(unittest.TestCase):
    def test_names_and_arguments(self):
        for module, forms in WANTED.items():
            for form in forms:
                with self.subTest(form):
                    name = form.partition("(")[0]
                    own = getattr(importlib.import_module(module), name)
                    self.assertEqual(name + str(inspect.signature(own)), form)

    def test_the_desks_own(self):
        desk = importlib.import_module("neverbelow.desk").Desk
        self.assertIs(type(desk), type)
        self.assertEqual(str(inspect.signature(desk().say)), "(row)")


if __name__ == "__main__":
    unittest.main()
