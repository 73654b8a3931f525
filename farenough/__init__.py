"""Farenough: a build engine that runs each recipe only as far as it must."""
