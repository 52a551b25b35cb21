"""Rankedchains: equations of changing worths, led to chains by rankings."""
