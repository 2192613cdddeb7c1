"""Layerask: believing a large result by a few questions to the layers of a circuit."""
