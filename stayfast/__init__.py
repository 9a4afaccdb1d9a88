"""Stayfast: what stands, by bars, ropes, props, walls and wheels."""
