"""Widestparcels: the greatest parcel that gets through when silence may be chance."""
