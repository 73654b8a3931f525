"""Workshops: recipes by their names."""

from farenough.recipes import Recipe
from farenough.runs import Run


class Workshop:
    """Gives recipes to names. A name without a recipe stands for the recipe that stops at once."""

    def __init__(self, recipes):
        self._recipes = dict(recipes)

    def __contains__(self, x):
        return x in self._recipes

    def __len__(self):
        return len(self._recipes)

    def _recipe_of(self, name):
        return self._recipes.get(name, Recipe())

    def step_at(self, place):
        """The step that the recipe of this place takes there."""
        name, arguments, answers, count = place
        return self._recipe_of(name).step_at(arguments, answers, count)

    def begin(self, name, arguments=()):
        """A new run of the recipe of this name."""
        return Run(name, self._recipe_of(name), arguments)

    def changed(self, name, recipe):
        """A workshop with this recipe under this name, and all others as they are here."""
        return Workshop({**self._recipes, name: recipe})
