"""Maymeet: rows of people who may change places at told meetings."""
