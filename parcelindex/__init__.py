"""Parcelindex: parcels chosen, locked and installed."""
